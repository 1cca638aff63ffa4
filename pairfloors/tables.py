"""Tables: which pairs of coats change into one another."""

from pairfloors.errors import BadTable, Loose
from pairfloors.forms import first_fault, is_rising_pair
from pairfloors.ways import steps_from
from pairfloors.webs import near_rows


def checked_table(coats, table):
    """The table as a world keeps it: the pairs, all of them for None."""
    if table is None:
        return all_pairs(coats)
    at = first_fault(table, lambda pair: is_rising_pair(pair, coats))
    if at >= 0:
        raise BadTable(at)
    steps = steps_from(near_rows(coats, table), 0)
    if -1 in steps:
        raise Loose(steps.index(-1))
    return table


def all_pairs(coats):
    """All pairs of so many coats, ascending."""
    return tuple([(p, r) for p in range(coats) for r in range(p + 1, coats)])
