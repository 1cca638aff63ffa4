"""Cores: what is left of a ring of coats when like neighbours are struck out."""

from pairfloors.errors import BadCoat, BadSize, NotRing
from pairfloors.forms import is_below
from pairfloors.kinds import kind
from pairfloors.parts import part_of
from pairfloors.worlds import MOST_COATS

SHORTEST_ROW = 3
LONGEST_ROW = 40


def ring_row(web, x):
    """The cells of the part of x, which is a ring, one after the other from the least one on."""
    part = part_of(web, x)
    if kind(web, x) != "ring":
        raise NotRing(part[0])
    row = [part[0], web.near(part[0])[0]]
    while len(row) < len(part):
        onward = [y for y in web.near(row[-1]) if y != row[-2]]
        row.append(onward[0])
    return tuple(row)


def core_of(row):
    """The least allowed reading of what is left of the row."""
    if not SHORTEST_ROW <= len(row) <= LONGEST_ROW:
        raise BadSize(len(row))
    for i, coat in enumerate(row):
        if not is_below(coat, MOST_COATS):
            raise BadCoat(i)
    places = places_left(row)
    letters = tuple([row[i] for i in places])
    readings = [letters[at:] + letters[:at] for at, i in enumerate(places) if len(row) & 1 == 1 or i & 1 == 0]
    return min(readings, default=())


def places_left(row):
    """The places of the row whose letters are left, ascending."""
    left = []
    for i, coat in enumerate(row):
        if left and row[left[-1]] == coat:
            left.pop()
        else:
            left.append(i)
    # The row is a ring: its ends are neighbours as well.
    while len(left) >= 2 and row[left[0]] == row[left[-1]]:
        left = left[1:-1]
    return left
