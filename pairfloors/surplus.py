"""What no deed changes: the surplus and the odd coats of a floor on a part."""

from pairfloors.errors import OneSided
from pairfloors.floors import checked_floor, worn
from pairfloors.parts import part_of
from pairfloors.sides import sides


def surplus(world, floor, x):
    """For each coat how many light cells of the part of x wear it, less how many dark ones."""
    checked_floor(world, floor)
    part = part_of(world.web, x)
    shades = sides(world.web)
    if shades[x] < 0:
        raise OneSided(part[0])
    light = worn(floor, [y for y in part if shades[y] == 0])
    dark = worn(floor, [y for y in part if shades[y] == 1])
    return tuple([light.count(coat) - dark.count(coat) for coat in range(world.coats)])


def odd_coats(world, floor, x):
    """The coats that an odd number of cells of the part of x wear, ascending."""
    checked_floor(world, floor)
    coats = worn(floor, part_of(world.web, x))
    return tuple([coat for coat in range(world.coats) if coats.count(coat) & 1 == 1])
