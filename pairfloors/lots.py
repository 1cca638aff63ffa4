"""Lots: how many floors have one surplus, or one set of odd coats."""

from math import comb

from pairfloors.errors import BadAnswer, BadSize, TooLarge
from pairfloors.forms import are_numbers, check_count, first_fault, is_below
from pairfloors.parts import parts
from pairfloors.sides import sides
from pairfloors.webs import MOST_CELLS
from pairfloors.worlds import MOST_COATS, check_coats

MOST_LISTED_CELLS = 16


def side_lot(light, dark, surplus):
    """How many ways there are to give coats to so many light and dark cells that they have the surplus."""
    check_count(light, 0, MOST_CELLS)
    check_count(dark, 0, MOST_CELLS)
    if not 1 <= len(surplus) <= MOST_COATS:
        raise BadAnswer(surplus)
    # The light cells that are left tell how many dark ones are: each way has the same difference between them.
    ways = {light: 1}
    over = light - dark
    for more in surplus:
        ways = ways_on(ways, over, more)
        over -= more
    return ways.get(0, 0) if over == 0 else 0


def odd_lot(n, coats, many):
    """How many tuples of n coats have just the coats of one set of many coats an odd number of times."""
    check_count(n, 0, MOST_CELLS)
    check_coats(coats)
    if not 0 <= many <= coats:
        raise BadAnswer(many)
    row = [1] + [0] * coats
    for _ in range(n):
        wide = [0] + row + [0]
        row = [r * wide[r] + (coats - r) * wide[r + 2] for r in range(coats + 1)]
    return row[many]


def lot_size(web, coats, key):
    """How many floors the lot of the key has."""
    row = key_row(web, coats, key)
    return ways_left(sides(web), row)


def ways_on(ways, over, more):
    """The ways with one more coat laid, which more light than dark cells wear: by so many as more tells.

    The ways are told for each number of light cells that are left; over is how many more these are than the dark ones.
    """
    found = {}
    for light, many in ways.items():
        dark = light - over
        for a in range(max(0, more), min(light, dark + more) + 1):
            found[light - a] = found.get(light - a, 0) + many * comb(light, a) * comb(dark, a - more)
    return found


def check_connected(web):
    """Refuse a web that has not just one part."""
    many = len(parts(web))
    if many != 1:
        raise BadSize(many)


def check_lot(web, coats):
    """Refuse a web whose lots are not listed, and a number of coats that no world has."""
    check_connected(web)
    check_coats(coats)
    if web.size > MOST_LISTED_CELLS:
        raise TooLarge(web.size)


def key_row(web, coats, key):
    """The key as one number for each coat: its surplus, or on a one-sided web 1 if it is odd and 0 if not."""
    check_lot(web, coats)
    if -1 not in sides(web):
        if not are_numbers(key, coats):
            raise BadAnswer(key)
        return key
    if not isinstance(key, tuple) or first_fault(key, lambda coat: is_below(coat, coats)) >= 0:
        raise BadAnswer(key)
    return tuple([int(coat in key) for coat in range(coats)])


def ways_left(shades, row):
    """How many ways there are to give coats to cells of these sides that they have the key, as key_row tells it."""
    if -1 in shades:
        return odd_lot(len(shades), len(row), sum(row))
    # Without any cell it does not matter of which kind the web is: there is one way if the row is all 0.
    return side_lot(shades.count(0), shades.count(1), row)
