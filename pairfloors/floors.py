"""Floors: a coat for each cell."""

from pairfloors.errors import BadCoat, BadSize
from pairfloors.forms import is_below
from pairfloors.parts import part_of


def checked_floor(world, floor):
    """The floor, if it is one of the world."""
    if len(floor) != world.web.size:
        raise BadSize(len(floor))
    for x, coat in enumerate(floor):
        if not is_below(coat, world.coats):
            raise BadCoat(x)
    return floor


def is_floor(world, value):
    """Whether value, which may be anything, is a floor of the world."""
    if not isinstance(value, tuple) or len(value) != world.web.size:
        return False
    return all([is_below(coat, world.coats) for coat in value])


def stirs(world, floor, x):
    """Whether two linked cells of the part of x wear the same coat."""
    checked_floor(world, floor)
    part = part_of(world.web, x)
    return any([floor[a] == floor[b] for a, b in world.web.links if a in part])


def worn(floor, cells):
    """The coats of the cells, in their order."""
    return tuple([floor[x] for x in cells])
