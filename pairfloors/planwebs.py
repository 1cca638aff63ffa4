"""The webs of plans, and which cell stands at which place."""

from pairfloors.errors import BadCell, BadSpot
from pairfloors.forms import is_below
from pairfloors.plans import are_beside, checked_plan, is_place
from pairfloors.webs import Web


def web_of(plan):
    """The web of the plan."""
    spots = spots_of(checked_plan(plan))
    walls = plan[4]
    links = []
    for a, p in enumerate(spots):
        for b, q in enumerate(spots):
            if a < b and are_beside(plan, p, q) and (p, q) not in walls:
                links.append((a, b))
    return Web(len(spots), tuple(links))


def cell_at(plan, r, c):
    """The cell at the place (r, c), or -1 if it is a hole."""
    spots = spots_of(checked_plan(plan))
    if not is_place(plan, (r, c)):
        raise BadSpot((r, c))
    if (r, c) in plan[3]:
        return -1
    return spots.index((r, c))


def spot_of(plan, x):
    """The place (r, c) of the cell x."""
    spots = spots_of(checked_plan(plan))
    if not is_below(x, len(spots)):
        raise BadCell(x)
    return spots[x]


def spots_of(plan):
    """The places of the cells in reading order, which is the order of the cells."""
    rows, cols = plan[:2]
    return [(r, c) for r in range(rows) for c in range(cols) if (r, c) not in plan[3]]
