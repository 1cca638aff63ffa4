"""Exchanges: steps that exchange two stones, or bring all stones to where they are wanted."""

from pairfloors.errors import BadPair, BadSize, NotStout, NoWay, TooMany
from pairfloors.forms import check_cell
from pairfloors.kinds import is_all_stout
from pairfloors.sides import sides
from pairfloors.turns import turn
from pairfloors.walkers import bare_cells, steps_back, walked, walker
from pairfloors.webs import rising

MOST_SEARCHED_CELLS = 12
MOST_SEARCHED_LINKS = 24


def arranged(web, stones, goal):
    """Steps from the stones to the goal."""
    walker(web, stones)
    end = walker(web, goal)
    check_searched(web)
    shades = sides(web)
    if sorted(zip(shades, stones)) != sorted(zip(shades, goal)):
        raise NoWay(0)
    steps = nearest(web, bare_cells(stones), (), lambda pair, held: pair == end)[0]
    cells = list(walked(web, stones, steps))
    for x in range(web.size):
        if cells[x] != goal[x]:
            z = wanted(shades, cells, goal, x)
            steps = steps + swap(web, tuple(cells), x, z)
            cells[x], cells[z] = cells[z], cells[x]
    return steps


def exchanged(web, stones, u, v):
    """Steps that exchange the stones at u and v and leave all else as it is."""
    pair = walker(web, stones)
    check_cell(web, u)
    check_cell(web, v)
    if u == v or u in pair or v in pair:
        raise BadPair((u, v))
    check_searched(web)
    shades = sides(web)
    if shades[u] != shades[v]:
        raise NoWay(0)
    return swap(web, stones, u, v)


def check_searched(web):
    """Refuse a web that is too large to be searched, or that is not connected and stout."""
    if web.size > MOST_SEARCHED_CELLS:
        raise BadSize(web.size)
    if len(web.links) > MOST_SEARCHED_LINKS:
        raise TooMany(len(web.links))
    if not is_all_stout(web):
        raise NotStout(0)


def wanted(shades, cells, goal, x):
    """The first cell of the side of x that holds what the goal has at x, and not what it has there itself."""
    z = 0
    while shades[z] != shades[x] or cells[z] != goal[x] or cells[z] == goal[z]:
        z += 1
    return z


def swap(web, stones, u, v):
    """As exchanged, for cells that are known to have such steps."""
    start = bare_cells(stones)
    steps, pair, marks = nearest(web, start, (u, v), lambda at, held: stay_near(web, at, held) is not None)
    stay = stay_near(web, pair, marks)
    # The turn leads the walker back to where it began to turn, so that it can go back as it came.
    turned = turn(web, walked(web, stones, steps), stay, marks[0], marks[1])
    return steps + turned + steps_back(web, stones, steps)


def stay_near(web, pair, marks):
    """The walker's cell that is near both marks, or None."""
    for stay in pair:
        if web.linked(stay, marks[0]) and web.linked(stay, marks[1]):
            return stay
    return None


def nearest(web, pair, marks, fits):
    """The fewest steps that lead a walker on the pair, and the stones at the marks, to where fits(pair, marks) holds.

    With the steps come the pair and the marks to which they lead. That there are such steps is known.
    """
    start = (rising(pair[0], pair[1]), marks)
    came = {start: None}
    queue = [start]
    at = 0
    here = start
    while not fits(here[0], here[1]):
        for step, state in states_next(web, here):
            if state not in came:
                came[state] = (step, here)
                queue.append(state)
        at += 1
        here = queue[at]
    return (steps_to(came, here), here[0], here[1])


def states_next(web, state):
    """The steps from a pair with marks, each with the pair and the marks behind it."""
    (x, y), marks = state
    found = []
    for stay, left in ((x, y), (y, x)):
        for to in web.near(stay):
            if to != left:
                moved = tuple([left if mark == to else mark for mark in marks])
                found.append(((stay, to), (rising(stay, to), moved)))
    return found


def steps_to(came, state):
    """The steps to a state that has been found; came holds for each state the step to it and the state before."""
    steps = []
    while came[state] is not None:
        step, state = came[state]
        steps.append(step)
    return tuple(steps[::-1])
