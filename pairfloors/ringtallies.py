"""Ring tallies: how many cores stirring floors of a ring have, and how many rows have one core."""

from math import gcd

from pairfloors.cores import LONGEST_ROW, SHORTEST_ROW, core_of
from pairfloors.forms import check_count, is_below
from pairfloors.powers import power
from pairfloors.worlds import check_coats


def core_count(n, coats):
    """How many cores of fewer than n letters the rows of n coats have."""
    check_ring(n, coats)
    return sum([orbits(m, coats) for m in range(n - 2, -1, -2)])


def ring_lot(n, coats, core):
    """How many rows of n coats have the core."""
    check_ring(n, coats)
    if not is_core(n, coats, core):
        return 0
    many = len(core)
    table = rows_leaving(n, coats)
    ways = [ends_around(many, k, coats) * table[many + 2 * k] for k in range((n - many) // 2 + 1)]
    return unlike_turns(core) * sum(ways)


def check_ring(n, coats):
    """Refuse a length that no ring has, and a number of coats that no world has."""
    check_count(n, SHORTEST_ROW, LONGEST_ROW)
    check_coats(coats)


def orbits(m, coats):
    """How many cores have m letters."""
    if m < 2:
        return 1 if m == 0 else coats
    # The mean over all turns that lead from reading to reading of how many rows a turn leaves as they are.
    unmoved = [unlike_rings(gcd(by, m), coats) for by in allowed_starts(m)]
    return sum(unmoved) // len(unmoved)


def unlike_rings(g, coats):
    """How many rows of g coats, read as a ring, have no two like letters next to each other."""
    around = power(coats - 1, g)
    return around + coats - 1 if g & 1 == 0 else around - coats + 1


def allowed_starts(m):
    """The places of a core of m letters at which its allowed readings begin."""
    return list(range(0, m, 1 + (m + 1) % 2))


def is_core(n, coats, core):
    """Whether core, a tuple of any numbers, is the core of some row of n coats."""
    gone = n - len(core)
    if gone < 0 or gone & 1 == 1 or not all([is_below(coat, coats) for coat in core]):
        return False
    return core_of(core + (0,) * gone) == core


def unlike_turns(core):
    """How many unlike allowed readings there are of the letters of the core."""
    if not core:
        return 1
    return len({core[at:] + core[:at] for at in allowed_starts(len(core))})


def rows_leaving(n, coats):
    """For each number of letters how many rows of n coats leave one fixed row of so many, if their ends do not meet."""
    table = [1] + [0] * (n + 1)
    for _ in range(n):
        onward = [table[far - 1] + (coats - 1) * table[far + 1] for far in range(1, n + 1)]
        table = [coats * table[1]] + onward + [0]
    return table


def ends_around(many, k, coats):
    """How many rows of k letters may stand at both ends of one reading of many letters, to go when the ends meet."""
    if k == 0:
        return 1
    if many >= 2:
        return (coats - 2) * power(coats - 1, k - 1)
    return power(coats - 1, k) if many == 1 else 0
