"""Carriages: which load goes where, so that all of them together go as few steps as can be."""

from pairfloors.errors import NotSame
from pairfloors.forms import are_numbers
from pairfloors.loaded import bear_loads, loaded, two_sides, unlike_parts, within
from pairfloors.parts import part_of, parts
from pairfloors.ways import steps_apart


def carriage(web, one, two):
    """A carriage of least cost from one to two."""
    first, second = loaded(web, one), loaded(web, two)
    unlike = unlike_parts(web, first, second)
    if unlike:
        raise NotSame(unlike[0][0])
    # Where both floors are loaded the load may stay: to let it go on and another one come is never cheaper.
    pairs = [(x, x) for x in first if x in second]
    starts = [x for x in first if x not in second]
    ends = [x for x in second if x not in first]
    for part in parts(web):
        pairs.extend(cheapest(web, within(starts, part), within(ends, part)))
    return tuple(sorted(pairs))


def carriage_right(web, one, two, pairs):
    """Judge: whether pairs is a carriage from one to two, whatever its cost."""
    if not bear_loads(web, one, two) or not isinstance(pairs, tuple):
        return False
    if not all([are_numbers(pair, 2) for pair in pairs]):
        return False
    # No cell is the first one of two pairs, so the pairs ascend just if their first cells do.
    if tuple([s for s, _ in pairs]) != loaded(web, one) or tuple(sorted([t for _, t in pairs])) != loaded(web, two):
        return False
    return all([t in part_of(web, s) for s, t in pairs])


def cost(web, pairs):
    """The sum of the steps apart of the two cells of each pair."""
    two_sides(web)
    return sum([steps_apart(web, s)[t] for s, t in pairs])


def carry(web, one, two):
    """The least cost of a carriage from one to two."""
    return cost(web, carriage(web, one, two))


def cheapest(web, starts, ends):
    """Pairs of each start with an end of its own, at least cost; there are as many ends as starts, all in one part."""
    rows = [steps_apart(web, s) for s in starts]
    chosen = paired([[row[t] for t in ends] for row in rows])
    return [(starts[row], ends[column]) for column, row in enumerate(chosen)]


def paired(costs):
    """For each column of a square of costs a row of its own, so that their costs together are the least."""
    rows = [-1] * len(costs)
    prices = [0] * len(costs)
    for row in range(len(costs)):
        add_row(costs, rows, prices, row)
    return rows


def add_row(costs, rows, prices, row):
    """Give one more row a column, on the cheapest way over columns whose rows go on to other ones.

    The price of a column is such that each row has the column that costs it least beside the price: so none is better
    off with another column, and a way on never costs less than nothing.
    """
    spent, before = {}, {}
    reached = []
    here, last = row, -1
    while here >= 0:
        paid = spent[last] - costs[here][last] + prices[last] if reached else 0
        for column in range(len(costs)):
            way = paid + costs[here][column] - prices[column]
            if column not in reached and way < spent.get(column, way + 1):
                spent[column] = way
                before[column] = last
        left = [column for column in range(len(costs)) if column not in reached]
        last = min(left, key=lambda column: spent[column])
        reached.append(last)
        here = rows[last]
    for column in reached:
        prices[column] -= spent[last] - spent[column]
    hand_on(rows, before, last, row)


def hand_on(rows, before, last, row):
    """Along the way that ends at the last column let each row go on, and the new one take the first column."""
    while before[last] >= 0:
        rows[last] = rows[before[last]]
        last = before[last]
    rows[last] = row
