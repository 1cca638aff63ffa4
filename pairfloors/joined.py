"""Webs with one more cell, and webs that are made of two."""

from pairfloors.errors import BadDoor, BadPair, BadSize
from pairfloors.forms import are_numbers, check_cell
from pairfloors.webs import MOST_CELLS, Web


def with_corner(web, x, z):
    """The web with one more cell after all others, linked to x and z."""
    check_cell(web, x)
    check_cell(web, z)
    if x == z:
        raise BadPair((x, z))
    corner = web.size
    # Web itself refuses a cell or a link too many, in this order.
    return Web(corner + 1, tuple(sorted(web.links + ((x, corner), (z, corner)))))


def joined(one, two, doors):
    """The web of the cells of one and behind them those of two, with a link for each door (a, b)."""
    size = one.size + two.size
    if size > MOST_CELLS:
        raise BadSize(size)
    check_doors(one, two, doors)
    behind = [(one.size + a, one.size + b) for a, b in two.links]
    between = [(a, one.size + b) for a, b in doors]
    return Web(size, tuple(sorted(list(one.links) + behind + between)))


def check_doors(one, two, doors):
    """Refuse the first door that leads from no cell of one or to no cell of two, or that stands there before."""
    seen = set()
    for at, door in enumerate(doors):
        if not is_door(one, two, door) or door in seen:
            raise BadDoor(at)
        seen.add(door)


def is_door(one, two, door):
    """Whether door is a pair of a cell of one and a cell of two."""
    return are_numbers(door, 2) and 0 <= door[0] < one.size and 0 <= door[1] < two.size
