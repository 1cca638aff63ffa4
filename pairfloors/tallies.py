"""Tallies: how many sets of odd coats stirring floors have."""

from math import comb

from pairfloors.forms import check_count
from pairfloors.webs import MOST_CELLS
from pairfloors.worlds import check_coats


def odd_count(n, coats):
    """How many sets are the odd coats of some stirring floor of a one-sided stout part of n cells."""
    check_count(n, 1, MOST_CELLS)
    check_coats(coats)
    return sum([comb(coats, r) for r in range(n - 2, -1, -2)])
