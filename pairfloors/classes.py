"""Classes: which floors of a small world are the same."""

from pairfloors.floornumbers import check_small, deed_rows


def class_row(world):
    """For each number of a floor the least number of a floor that is the same."""
    check_small(world.coats, world.web.size)
    rows = deed_rows(world)
    least = [-1] * len(rows)
    for n in range(len(rows)):
        if least[n] < 0:
            mark_class(rows, least, n)
    return tuple(least)


def mark_class(rows, least, start):
    """Note in least the number start for all floors that come of it."""
    least[start] = start
    reached = [start]
    while reached:
        for n in rows[reached.pop()]:
            if least[n] < 0:
                least[n] = start
                reached.append(n)
