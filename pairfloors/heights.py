"""Heights: papers that no run between two floors in two coats is shorter."""

from pairfloors.carriage import carriage
from pairfloors.forms import are_numbers, is_number
from pairfloors.loaded import bear_loads, fits, loaded
from pairfloors.ways import steps_apart


def rise(web, one, two, levels):
    """The sum of the levels over the loaded cells of two, less that over the loaded cells of one."""
    first, second = loaded(web, one), loaded(web, two)
    return sum([levels[x] for x in second]) - sum([levels[x] for x in first])


def heights_right(web, one, two, n, levels):
    """Judge: whether one and two fit, and levels are heights whose rise is at least n."""
    if not bear_loads(web, one, two) or not is_number(n) or not are_numbers(levels, web.size):
        return False
    if not all([abs(levels[a] - levels[b]) <= 1 for a, b in web.links]):
        return False
    return fits(web, one, two) and rise(web, one, two, levels) >= n


def heights(web, one, two):
    """Heights whose rise is the least cost of a carriage from one to two."""
    pairs = carriage(web, one, two)
    # Rules (x, y, most): y is at most so much higher than x. The first cell of each pair is as far below the other one
    # as the pair costs; the rules agree with each other as no carriage costs less.
    rules = [(t, s, -steps_apart(web, s)[t]) for s, t in pairs]
    rules.extend([(a, b, 1) for a, b in web.links])
    rules.extend([(b, a, 1) for a, b in web.links])
    levels = [0] * web.size
    while lowered(levels, rules):
        pass
    return tuple(levels)


def lowered(levels, rules):
    """Lower each level to what the rules let; whether one had to be lowered."""
    done = False
    for x, y, most in rules:
        if levels[y] > levels[x] + most:
            levels[y] = levels[x] + most
            done = True
    return done
