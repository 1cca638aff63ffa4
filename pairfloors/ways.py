"""Ways: how far cells are apart, and the first of the shortest rows between them."""

from pairfloors.forms import check_cell
from pairfloors.webs import near_rows


def steps_apart(web, x):
    """For each cell the least number of links on a row from x to it, -1 in other parts."""
    check_cell(web, x)
    return steps_from(near_rows(web.size, web.links), x)


def way(web, x, y):
    """The first, as a tuple, of the shortest rows of linked cells from x to y, or None."""
    check_cell(web, x)
    check_cell(web, y)
    return first_row(near_rows(web.size, web.links), x, y)


def steps_from(rows, start):
    """For each number the least number of steps from start, -1 where none lead; rows[x] holds what is near x."""
    apart = [-1] * len(rows)
    apart[start] = 0
    queue = [start]
    at = 0
    while at < len(queue):
        x = queue[at]
        at += 1
        for y in rows[x]:
            if apart[y] < 0:
                apart[y] = apart[x] + 1
                queue.append(y)
    return tuple(apart)


def first_row(rows, start, end):
    """The first of the shortest rows from start to end, or None; rows[x] holds what is near x, ascending."""
    # Counted from the end, so that the least near number that is one step closer can be taken at once.
    apart = steps_from(rows, end)
    if apart[start] < 0:
        return None
    row = [start]
    for left in range(apart[start] - 1, -1, -1):
        closer = [x for x in rows[row[-1]] if apart[x] == left]
        row.append(closer[0])
    return tuple(row)
