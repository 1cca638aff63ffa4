"""Chains: how coats change into one another over others."""

from pairfloors.errors import BadCoat
from pairfloors.forms import is_below
from pairfloors.runs import coats_before
from pairfloors.ways import first_row
from pairfloors.webs import near_rows
from pairfloors.worlds import World


def chain(world, p, r):
    """The first, as a tuple, of the shortest rows of coats from p to r in which neighbours are pairs of the table."""
    for coat in (p, r):
        if not is_below(coat, world.coats):
            raise BadCoat(coat)
    return first_row(near_rows(world.coats, world.table), p, r)


def widened(world, floor, run):
    """The run of the world that does what the run does where the table has all pairs."""
    worn = coats_before(World(world.web, world.coats), floor, run)
    chains = all_chains(world)
    wider = []
    for (x, y, coat), old in zip(run, worn):
        wider.extend([(x, y, c) for c in chains[old, coat][1:]])
    return tuple(wider)


def all_chains(world):
    """The chains of all coats (p, r): runs of many deeds would ask for each of them again and again."""
    return {(p, r): chain(world, p, r) for p in range(world.coats) for r in range(world.coats)}
