"""The order of lots: which floor of a lot has which number."""

from pairfloors.errors import BadNumber
from pairfloors.floors import checked_floor
from pairfloors.lots import check_lot, key_row, ways_left
from pairfloors.sides import sides
from pairfloors.surplus import odd_coats, surplus
from pairfloors.worlds import World


def lot_floor(web, coats, key, n):
    """The floor that has the number n in the lot of the key."""
    row = key_row(web, coats, key)
    shades = sides(web)
    if not 0 <= n < ways_left(shades, row):
        raise BadNumber(n)
    floor = []
    for x in range(web.size):
        ways = ways_by_coat(shades[x:], row)
        coat = 0
        while n >= ways[coat]:
            n -= ways[coat]
            coat += 1
        floor.append(coat)
        row = row_behind(row, coat, shades[x])
    return tuple(floor)


def lot_number(web, coats, floor):
    """The number of the floor in the lot of its own key."""
    check_lot(web, coats)
    world = World(web, coats)
    checked_floor(world, floor)
    row = key_row(web, coats, key_of(world, floor))
    shades = sides(web)
    number = 0
    for x, coat in enumerate(floor):
        number += sum(ways_by_coat(shades[x:], row)[:coat])
        row = row_behind(row, coat, shades[x])
    return number


def key_of(world, floor):
    """The key of a floor of a connected web."""
    if -1 in sides(world.web):
        return odd_coats(world, floor, 0)
    return surplus(world, floor, 0)


def ways_by_coat(shades, row):
    """For each coat of the first of the cells with these sides how many ways there are to go on behind it."""
    return [ways_left(shades[1:], row_behind(row, coat, shades[0])) for coat in range(len(row))]


def row_behind(row, coat, side):
    """What is left of the key, as key_row tells it, for the cells behind one of this side that wears the coat."""
    left = list(row)
    if side == 0:
        left[coat] -= 1
    elif side == 1:
        left[coat] += 1
    else:
        left[coat] = 1 - left[coat]
    return tuple(left)
