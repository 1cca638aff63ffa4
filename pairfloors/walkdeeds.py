"""From steps to deeds: a like pair is a walker, and the coats of all other cells are its stones."""

from pairfloors.chains import all_chains
from pairfloors.errors import BadPair, BadStep
from pairfloors.floors import checked_floor
from pairfloors.forms import check_cell
from pairfloors.walkers import left_by
from pairfloors.webs import rising


def run_of_steps(world, floor, x, y, steps):
    """The run of the steps that begin with the walker on x and y."""
    cells = list(checked_floor(world, floor))
    check_cell(world.web, x)
    check_cell(world.web, y)
    if not world.web.linked(x, y) or floor[x] != floor[y]:
        raise BadPair((x, y))
    chains = all_chains(world)
    pair = (x, y)
    run = []
    for i, step in enumerate(steps):
        left = left_by(world.web, pair, step)
        if left is None:
            raise BadStep(i)
        stay, to = step
        run.extend([rising(stay, left) + (coat,) for coat in chains[cells[stay], cells[to]][1:]])
        cells[stay] = cells[to]
        cells[left] = cells[to]
        pair = step
    return tuple(run)
