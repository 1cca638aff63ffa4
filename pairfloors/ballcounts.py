"""Ball counts: how many floors are near a floor, and how many runs lead to another one."""

from pairfloors.floornumbers import check_small, deed_rows, floor_number
from pairfloors.forms import check_count
from pairfloors.ways import steps_from

LONGEST_WAY = 1000
LONGEST_COUNTED_RUN = 12


def ball(world, floor, n):
    """How many floors there are to which a run of at most n deeds leads from floor."""
    check_small(world.coats, world.web.size)
    start = floor_number(world, floor)
    check_count(n, 0, LONGEST_WAY)
    return len([steps for steps in steps_from(deed_rows(world), start) if 0 <= steps <= n])


def runs_of(world, one, two, n):
    """How many runs of exactly n deeds lead from one to two."""
    check_small(world.coats, world.web.size)
    start = floor_number(world, one)
    end = floor_number(world, two)
    check_count(n, 0, LONGEST_COUNTED_RUN)
    rows = deed_rows(world)
    counts = [0] * len(rows)
    counts[start] = 1
    for _ in range(n):
        # Each deed can be taken back: the floors from which one deed leads here are those to which one leads from here.
        counts = [sum([counts[other] for other in row]) for row in rows]
    return counts[end]
