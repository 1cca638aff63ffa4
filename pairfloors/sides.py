"""Sides: light and dark cells, and the odd rounds of parts that have no two sides."""

from pairfloors.forms import is_below
from pairfloors.parts import part_of, parts
from pairfloors.ways import steps_apart, way


def sides(web):
    """For each cell 0 if it is light, 1 if it is dark, -1 in a one-sided part."""
    found = [-1] * web.size
    for part in parts(web):
        apart = steps_apart(web, part[0])
        if level_link(web, apart) is None:
            for x in part:
                found[x] = apart[x] & 1
    return tuple(found)


def odd_round(web, x):
    """An odd round of the part of x, or None if the part is two-sided."""
    link = level_link(web, steps_apart(web, x))
    if link is None:
        return None
    there = way(web, x, link[0])
    back = way(web, x, link[1])
    # Both ways are equally long, and x stands in the round once: so the number of cells is odd.
    return there + back[:0:-1]


def odd_round_right(web, x, cells):
    """Judge: whether cells is an odd round of the part of x."""
    if not is_below(x, web.size) or not isinstance(cells, tuple):
        return False
    if len(cells) & 1 == 0 or len(cells) > 2 * web.size:
        return False
    part = part_of(web, x)
    # The cell at index -1 is the last one, which the first one must be linked to.
    return all([y in part and web.linked(cells[at - 1], y) for at, y in enumerate(cells)])


def level_link(web, apart):
    """The first link whose ends are equally many steps from where apart counts, or None.

    The ends of a link differ by one step at most; so where none are level, the steps tell the sides.
    """
    for a, b in web.links:
        if apart[a] >= 0 and apart[a] == apart[b]:
            return (a, b)
    return None
