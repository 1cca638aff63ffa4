"""Texts of floors of plans."""

from pairfloors.errors import BadText
from pairfloors.plans import checked_plan
from pairfloors.planwebs import spots_of
from pairfloors.words import coats_of, letters_of

HOLE = "#"


def floor_text(plan, floor):
    """The text of the floor of the plan."""
    rows, cols = checked_plan(plan)[:2]
    signs = {spot: sign for spot, sign in zip(spots_of(plan), letters_of(floor))}
    return "\n".join(["".join([signs.get((r, c), HOLE) for c in range(cols)]) for r in range(rows)])


def floor_of(plan, text):
    """The floor of the plan of which the text is."""
    checked_plan(plan)
    rows = text.split("\n")
    for at in range(max(len(rows), plan[0])):
        if at >= len(rows) or at >= plan[0] or not is_row(plan, at, rows[at]):
            raise BadText(at)
    return coats_of("".join(rows).replace(HOLE, ""))


def is_row(plan, r, row):
    """Whether the text stands for coats on the row r of the plan."""
    if len(row) != plan[1]:
        return False
    return all([sign == HOLE if (r, c) in plan[3] else coats_of(sign) is not None for c, sign in enumerate(row)])
