"""Runs: deeds one after the other."""

from pairfloors.deeds import changed, is_let
from pairfloors.errors import BadRun
from pairfloors.floors import checked_floor, is_floor
from pairfloors.forms import are_numbers


def replayed(world, floor, run):
    """The floor to which the run leads."""
    cells = list(checked_floor(world, floor))
    check_played(run, play(world, cells, run))
    return tuple(cells)


def trail(world, floor, run):
    """All floors on the way of the run, the first and the last included."""
    replayed(world, floor, run)
    floors = [floor]
    for deed in run:
        floors.append(changed(floors[-1], deed))
    return tuple(floors)


def run_right(world, one, other, run):
    """Judge: whether run is a run from the floor one that leads to the floor other."""
    if not is_floor(world, one) or not is_floor(world, other) or not isinstance(run, tuple):
        return False
    if not all([are_numbers(deed, 3) for deed in run]):
        return False
    cells = list(one)
    worn = play(world, cells, run)
    return len(worn) == len(run) and tuple(cells) == other


def turned_back(world, floor, run):
    """The run from the end of the run back to the floor."""
    worn = coats_before(world, floor, run)
    return tuple([(x, y, old) for (x, y, _), old in reversed(list(zip(run, worn)))])


def coats_before(world, floor, run):
    """For each deed of the run the coat that its two cells wear before it."""
    worn = play(world, list(checked_floor(world, floor)), run)
    check_played(run, worn)
    return worn


def play(world, cells, run):
    """Do the deeds on cells, a floor as a list, up to the first that is not let; give the coats before each deed."""
    worn = []
    for deed in run:
        if not is_let(world, cells, deed):
            return worn
        x, y, coat = deed
        worn.append(cells[x])
        cells[x] = coat
        cells[y] = coat
    return worn


def check_played(run, worn):
    """Refuse the run if not all of its deeds have been done."""
    if len(worn) < len(run):
        raise BadRun(len(worn))
