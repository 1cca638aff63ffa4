"""Loads: floors in two coats, told by the cells that do not wear the coat of their side."""

from pairfloors.errors import BadCell, OneSided
from pairfloors.floors import checked_floor, is_floor
from pairfloors.forms import first_fault, is_below
from pairfloors.parts import parts
from pairfloors.sides import sides
from pairfloors.worlds import World


def loaded(web, floor):
    """The loaded cells of the floor: light cells in coat 1, dark cells in coat 0."""
    shades = two_sides(web)
    checked_floor(World(web, 2), floor)
    # The number of a side is the coat that its cells wear where nothing is loaded.
    return tuple([x for x, coat in enumerate(floor) if coat != shades[x]])


def floor_of_load(web, cells):
    """The floor that has just these loaded cells."""
    shades = two_sides(web)
    at = first_fault(cells, lambda x: is_below(x, web.size))
    if at >= 0:
        raise BadCell(cells[at])
    return tuple([1 - side if x in cells else side for x, side in enumerate(shades)])


def fits(web, one, two):
    """Whether the two floors have equally many loaded cells on each part."""
    return not unlike_parts(web, loaded(web, one), loaded(web, two))


def two_sides(web):
    """The sides of the cells, if each part of the web has two."""
    shades = sides(web)
    if -1 in shades:
        raise OneSided(shades.index(-1))
    return shades


def unlike_parts(web, first, second):
    """The parts that do not have equally many of the first cells and of the second ones."""
    return [part for part in parts(web) if len(within(first, part)) != len(within(second, part))]


def within(cells, part):
    """Those of the cells that are in the part."""
    return [x for x in cells if x in part]


def bear_loads(web, one, two):
    """Whether the web has no one-sided part and one and two, which may be anything, are floors of it in two coats."""
    world = World(web, 2)
    return -1 not in sides(web) and is_floor(world, one) and is_floor(world, two)
