"""Texts of plans."""

from pairfloors.errors import BadText
from pairfloors.plans import checked_plan
from pairfloors.words import named_numbers


def plan_text(plan):
    """The text of the plan."""
    rows, cols, around, holes, walls = checked_plan(plan)
    told = [f"plan {rows} {cols} {around}"]
    told.extend([f"hole {r} {c}" for r, c in holes])
    told.extend([f"wall {p[0]} {p[1]} {q[0]} {q[1]}" for p, q in walls])
    return "\n".join(told)


def plan_from(text):
    """The plan of which the text is."""
    first, *others = text.split("\n")
    counts = named_numbers(first, "plan", 3)
    if counts is None:
        raise BadText(0)
    holes, walls = [], []
    for at, row in enumerate(others, start=1):
        hole = named_numbers(row, "hole", 2)
        border = named_numbers(row, "wall", 4)
        if border is not None:
            walls.append((border[:2], border[2:]))
        elif hole is not None and not walls:
            holes.append(hole)
        else:
            raise BadText(at)
    return checked_plan(counts + (tuple(holes), tuple(walls)))
