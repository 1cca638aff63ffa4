"""Surplus rows: how many surpluses stirring floors have."""

from math import comb

from pairfloors.forms import check_count
from pairfloors.webs import MOST_CELLS
from pairfloors.worlds import check_coats


def surplus_count(light, dark, coats):
    """How many tuples are the surplus of some stirring floor of a two-sided stout part with so many cells."""
    check_count(light, 1, MOST_CELLS)
    check_count(dark, 1, MOST_CELLS)
    check_coats(coats)
    least = max(0, light - dark)
    return sum([rows_with(above, above - light + dark, coats) for above in range(least, light)])


def rows_with(above, below, coats):
    """How many rows of coats numbers have these sums of their numbers above 0 and, without sign, below 0."""
    total = 0
    for a in range(coats + 1):
        for b in range(coats - a + 1):
            total += comb(coats, a) * sums_of(above, a) * comb(coats - a, b) * sums_of(below, b)
    return total


def sums_of(total, many):
    """How many rows of so many numbers above 0 have the sum total."""
    if total == 0 or many == 0:
        return int(total == many)
    return comb(total - 1, many - 1)
