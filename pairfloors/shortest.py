"""Shortest runs in small worlds, by search."""

from pairfloors.deeds import changed, deeds
from pairfloors.floornumbers import check_small, deed_rows, floor_number
from pairfloors.floors import checked_floor
from pairfloors.ways import steps_from


def far(world, floor):
    """For each number of a floor the least length of a run from floor to it, or -1."""
    check_small(world.coats, world.web.size)
    start = floor_number(world, floor)
    return steps_from(deed_rows(world), start)


def shortest(world, one, two):
    """The first, in the order of tuples, of the shortest runs from one to two, or None."""
    check_small(world.coats, world.web.size)
    checked_floor(world, one)
    # Told from the end: a run turned back is as long, and so the first deed that comes closer can be taken at once.
    apart = far(world, two)
    left = apart[floor_number(world, one)]
    if left < 0:
        return None
    run = []
    while len(run) < left:
        closer = [deed for deed in deeds(world, one) if apart[number_behind(world, one, deed)] == left - len(run) - 1]
        run.append(closer[0])
        one = changed(one, closer[0])
    return tuple(run)


def number_behind(world, floor, deed):
    """The number of the floor after a deed that is let on the floor."""
    return floor_number(world, changed(floor, deed))
