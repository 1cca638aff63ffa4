"""Sums: floors told part by part, and what floors on two webs make on the web that is joined of both."""

from pairfloors.errors import BadCount, BadDoor, NotStout
from pairfloors.floors import checked_floor, worn
from pairfloors.kinds import is_all_stout
from pairfloors.parts import parts
from pairfloors.sides import sides
from pairfloors.surplus import odd_coats, surplus


def split(world, floor):
    """For each part the coats of its cells."""
    checked_floor(world, floor)
    return tuple([worn(floor, part) for part in parts(world.web)])


def sum_answer(one, two, doors, first, second):
    """The surplus, or the odd coats, of the floors first and second together on the web joined by two doors."""
    checked_floor(one, first)
    checked_floor(two, second)
    if one.coats != two.coats:
        raise BadCount(two.coats)
    for which, world in enumerate((one, two)):
        if not is_all_stout(world.web):
            raise NotStout(which)
    if not are_doors(one.web, two.web, doors):
        raise BadDoor(0)
    here, there = sides(one.web), sides(two.web)
    if -1 in here or -1 in there:
        return tuple(sorted(set(odd_coats(one, first, 0)) ^ set(odd_coats(two, second, 0))))
    a, b = doors[0]
    # Where the cells of the door are of like sides, light and dark change places on the second web.
    sign = 1 if here[a] != there[b] else -1
    return tuple([more + sign * less for more, less in zip(surplus(one, first, 0), surplus(two, second, 0))])


def are_doors(one, two, doors):
    """Whether doors are two pairs, whose cells of one are linked there, and those of two there."""
    if len(doors) != 2:
        return False
    return one.linked(doors[0][0], doors[1][0]) and two.linked(doors[0][1], doors[1][1])
