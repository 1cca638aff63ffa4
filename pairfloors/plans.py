"""Plans: rows and columns of places, perhaps closed, with holes and walls."""

from pairfloors.errors import BadCount, BadHole, BadSize, BadWall
from pairfloors.forms import are_numbers, check_count, first_fault
from pairfloors.webs import MOST_CELLS

MOST_ROWS = 8
LEAST_CLOSED = 3


def checked_plan(plan):
    """The plan, if it is one."""
    rows, cols, around, holes, walls = plan
    check_counts(rows, cols, around)
    at = first_fault(holes, lambda hole: is_place(plan, hole))
    if at >= 0:
        raise BadHole(at)
    left = rows * cols - len(holes)
    if not 1 <= left <= MOST_CELLS:
        raise BadSize(left)
    at = first_fault(walls, lambda border: is_border(plan, border))
    if at >= 0:
        raise BadWall(at)
    return plan


def check_counts(rows, cols, around):
    """Refuse rows, columns and a closing that no plan may have."""
    check_count(rows, 1, MOST_ROWS)
    check_count(cols, 1, MOST_ROWS)
    check_count(around, 0, 3)
    if closes_rows(around) and cols < LEAST_CLOSED:
        raise BadCount(around)
    if closes_columns(around) and rows < LEAST_CLOSED:
        raise BadCount(around)


def closes_rows(around):
    """Whether each row is closed."""
    return around in (1, 3)


def closes_columns(around):
    """Whether each column is closed."""
    return around in (2, 3)


def is_place(plan, spot):
    """Whether spot is a place of the plan."""
    return are_numbers(spot, 2) and 0 <= spot[0] < plan[0] and 0 <= spot[1] < plan[1]


def is_border(plan, border):
    """Whether a wall may stand at border: two places beside one another, the lesser one first, and no holes."""
    if not isinstance(border, tuple) or len(border) != 2:
        return False
    p, q = border
    if not is_place(plan, p) or not is_place(plan, q) or p >= q:
        return False
    return p not in plan[3] and q not in plan[3] and are_beside(plan, p, q)


def are_beside(plan, p, q):
    """Whether two places of the plan are beside one another, over a seam too."""
    rows, cols, around = plan[:3]
    if p[0] == q[0]:
        return are_next(p[1], q[1], cols, closes_rows(around))
    return p[1] == q[1] and are_next(p[0], q[0], rows, closes_columns(around))


def are_next(i, k, many, closed):
    """Whether two of so many numbers in a row, closed or not, are next to each other."""
    far = abs(i - k)
    return far == 1 or (closed and far == many - 1)
