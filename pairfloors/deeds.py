"""Deeds: a like pair takes another coat."""

from pairfloors.errors import BadDeed
from pairfloors.floors import checked_floor


def deeds(world, floor):
    """All deeds that are let on the floor, ascending."""
    checked_floor(world, floor)
    found = []
    for x, y in world.web.links:
        for coat in range(world.coats):
            if is_let(world, floor, (x, y, coat)):
                found.append((x, y, coat))
    return tuple(found)


def after(world, floor, deed):
    """The floor after the deed."""
    checked_floor(world, floor)
    if not is_let(world, floor, deed):
        raise BadDeed(deed)
    return changed(floor, deed)


def is_let(world, floor, deed):
    """Whether the deed, a triple of any numbers, is let on the floor."""
    x, y, coat = deed
    if x >= y or not world.web.linked(x, y) or floor[x] != floor[y]:
        return False
    # A number that is no coat stands in no pair of the table, and no pair holds a coat twice.
    return (min(floor[x], coat), max(floor[x], coat)) in world.table


def changed(floor, deed):
    """The floor after a deed that is let on it."""
    x, y, coat = deed
    cells = list(floor)
    cells[x] = coat
    cells[y] = coat
    return tuple(cells)
