"""Merging: floors in many coats told as floors in two, in which runs are not longer."""

from pairfloors.carriage import carry
from pairfloors.errors import BadMap
from pairfloors.floors import checked_floor
from pairfloors.forms import is_below


def merged(world, floor, row):
    """The floor in two coats that has row[c] wherever the floor has the coat c."""
    checked_floor(world, floor)
    if len(row) != world.coats:
        raise BadMap(len(row))
    for at, entry in enumerate(row):
        if not is_below(entry, 2):
            raise BadMap(at)
    return tuple([row[coat] for coat in floor])


def merge_bound(world, one, two):
    """The most deeds that a run from one to two needs by any merging row."""
    return max(carries(world, one, two))


def merge_row(world, one, two):
    """The first merging row that gives the merge bound."""
    found = carries(world, one, two)
    return merging_rows(world.coats)[found.index(max(found))]


def carries(world, one, two):
    """For each merging row the least cost of a carriage between the merged floors."""
    floors = [(merged(world, one, row), merged(world, two, row)) for row in merging_rows(world.coats)]
    return [carry(world.web, first, second) for first, second in floors]


def merging_rows(coats):
    """All merging rows for so many coats, in the order of tuples."""
    rows = [()]
    for _ in range(coats):
        rows = [row + (entry,) for row in rows for entry in (0, 1)]
    return rows
