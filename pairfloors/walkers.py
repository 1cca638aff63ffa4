"""Walkers: two linked cells without stones, and the steps by which they move about and carry stones."""

from pairfloors.errors import BadSize, BadStep, BadStone, BadWalker
from pairfloors.forms import are_numbers, is_number
from pairfloors.squares import least_mate

BARE = -1
MOST_STONE = 999


def walker(web, stones):
    """The walker's cells (x, y), x < y."""
    if len(stones) != web.size:
        raise BadSize(len(stones))
    for x, stone in enumerate(stones):
        if not is_stone(stone):
            raise BadStone(x)
    cells = bare_cells(stones)
    if cells not in web.links:
        raise BadWalker(cells)
    return cells


def stepped(web, stones, step):
    """The stones behind the step."""
    walker(web, stones)
    cells = list(stones)
    if not walk(web, cells, (step,)):
        raise BadStep(step)
    return tuple(cells)


def walked(web, stones, steps):
    """The stones behind all steps."""
    walker(web, stones)
    cells = list(stones)
    check_walked(steps, walk(web, cells, steps))
    return tuple(cells)


def steps_back(web, stones, steps):
    """The steps from the stones behind all steps back to the stones."""
    walker(web, stones)
    lefts = walk(web, list(stones), steps)
    check_walked(steps, lefts)
    return tuple([(stay, left) for (stay, _), left in reversed(list(zip(steps, lefts)))])


def is_smooth(web, stones, step):
    """Judge: whether the step is one there, and the cell that is left and the one it leads to have a square mate."""
    if not is_stones(web, stones) or not are_numbers(step, 2):
        return False
    left = left_by(web, bare_cells(stones), step)
    return left is not None and least_mate(web, step[0], left, step[1]) is not None


def steps_right(web, stones, steps, goal):
    """Judge: whether the steps can be walked from the stones and lead to the goal."""
    if not is_stones(web, stones) or not is_stones(web, goal) or not isinstance(steps, tuple):
        return False
    if not all([are_numbers(step, 2) for step in steps]):
        return False
    cells = list(stones)
    lefts = walk(web, cells, steps)
    return len(lefts) == len(steps) and tuple(cells) == goal


def is_stone(value):
    """Whether value is a stone or stands for the walker."""
    return is_number(value) and BARE <= value <= MOST_STONE


def is_stones(web, value):
    """Whether value, which may be anything, is stones of the web."""
    if not isinstance(value, tuple) or len(value) != web.size:
        return False
    return all([is_stone(stone) for stone in value]) and bare_cells(value) in web.links


def bare_cells(stones):
    """The cells that hold no stone, ascending: the walker's, if there are such."""
    return tuple([x for x, stone in enumerate(stones) if stone == BARE])


def left_by(web, pair, step):
    """The cell that the step of a walker on the pair leaves, or None if it is no step there."""
    stay, to = step
    if stay not in pair or to in pair or not web.linked(stay, to):
        return None
    return pair[1] if stay == pair[0] else pair[0]


def walk(web, cells, steps):
    """Walk the steps on cells, stones as a list, up to the first that is none; give the cells that they left."""
    pair = bare_cells(cells)
    lefts = []
    for step in steps:
        left = left_by(web, pair, step)
        if left is None:
            return lefts
        to = step[1]
        cells[left] = cells[to]
        cells[to] = BARE
        lefts.append(left)
        # The walker is on stay and to now.
        pair = step
    return lefts


def check_walked(steps, lefts):
    """Refuse the steps if not all of them have been walked."""
    if len(lefts) < len(steps):
        raise BadStep(len(lefts))
