from itertools import permutations
from random import Random

from making import (
    ODD_THINGS, Case, all_floors, full, grid, line, made, nested, random_load, renamed, ring, side_by_side, slow_far, slow_fits,
    slow_loaded, slow_parts, slow_rows, tree, two_rows, two_sided_webs,
)

from pairfloors.carriage import carriage, carriage_right, carry, cost
from pairfloors.errors import BadCoat, BadSize, NotSame, OneSided
from pairfloors.loaded import floor_of_load
from pairfloors.sides import sides
from pairfloors.ways import steps_apart
from pairfloors.webs import Web
from pairfloors.worlds import World

ONE_SIDED = ((ring(3), 0), (side_by_side(line(2), ring(4), full(4), ring(5)), 6), (made(5, [(0, 4), (1, 2), (2, 3), (1, 3)]), 1))
WEB = grid(2, 3)
ALL_0, ALL_1 = (0,) * 6, (1,) * 6


def some_pairs(web, many, seed):
    """Floors in two coats that fit, chosen at random."""
    floors, chance = all_floors(World(web, 2)), Random(seed)
    pairs = [(chance.choice(floors), chance.choice(floors)) for _ in range(12 * many)]
    return [(one, two) for one, two in pairs if slow_fits(web, one, two)][:many]


def slow_carry(web, one, two):
    """The least cost of all pairings of the loaded cells, part by part."""
    total = 0
    for part in slow_parts(web):
        first = [x for x in slow_loaded(web, one) if x in part]
        second = [x for x in slow_loaded(web, two) if x in part]
        costs = [sum(len(slow_rows(web, s, t)[0]) - 1 for s, t in zip(first, order)) for order in permutations(second)]
        total += min(costs)
    return total


def is_least(web, pairs):
    """Whether no loads of the carriage could go round, each to the end of the next one, and cost less together."""
    apart = [steps_apart(web, s) for s, _ in pairs]
    more = [[row[t] - row[own] if row[t] >= 0 else 10 ** 6 for _, t in pairs] for row, (_, own) in zip(apart, pairs)]
    for by in range(len(pairs)):
        for row in more:
            row[:] = [min(straight, row[by] + over) for straight, over in zip(row, more[by])]
    return all(more[at][at] >= 0 for at in range(len(pairs)))


def is_carriage(web, one, two, pairs):
    first, second = slow_loaded(web, one), slow_loaded(web, two)
    together = all(any(s in part and t in part for part in slow_parts(web)) for s, t in pairs)
    return sorted(pairs) == list(pairs) and together and tuple(s for s, _ in pairs) == first and sorted(t for _, t in pairs) == list(second)


class Carriage(Case):
    def check(self, web, one, two):
        pairs = carriage(web, one, two)
        self.assertIs(pairs.__class__, tuple)
        self.assertTrue(is_carriage(web, one, two, pairs))
        self.is_true(carriage_right(web, one, two, pairs))
        self.assertEqual(carry(web, one, two), cost(web, pairs))
        return pairs

    def test_example(self):
        self.check(WEB, ALL_0, ALL_1)
        self.assertEqual(carry(web=WEB, one=ALL_0, two=ALL_1), 3)
        self.assertEqual(cost(WEB, carriage(web=WEB, one=ALL_0, two=ALL_1)), 3)
        self.assertEqual(cost(web=WEB, pairs=((1, 0), (3, 4), (5, 2))), 3)
        self.assertEqual(cost(WEB, ((1, 4), (3, 2), (5, 0))), 7)

    def test_least_of_all_pairings(self):
        for web in two_sided_webs():
            for one, two in some_pairs(web, 15, web.size):
                self.check(web, one, two)
                self.assertEqual(carry(web, one, two), slow_carry(web, one, two), (web.links, one, two))

    def test_as_long_as_the_shortest_run(self):
        for web in two_sided_webs():
            for one in {pair[0] for pair in some_pairs(web, 4, web.size + 1)}:
                for two, steps in slow_far(World(web, 2), one).items():
                    self.assertEqual(carry(web, one, two), steps)

    def test_no_loads_go_round_for_less(self):
        chance = Random(173)
        for seed in range(1200):
            n = chance.randint(8, 40)
            web = chance.choice((tree(n, seed), renamed(line(n), seed), ring(n // 2 * 2), grid(chance.randint(2, 5), chance.randint(3, 8))))
            shades, many = sides(web), chance.randint(1, min(web.size, 16))
            one, two = random_load(web, shades, many, chance), random_load(web, shades, many, chance)
            pairs = carriage(web, one, two)
            self.is_true(carriage_right(web, one, two, pairs))
            self.assertTrue(is_least(web, pairs))
            self.assertEqual(carry(web, one, two), cost(web, pairs))
        self.assertFalse(is_least(WEB, ((1, 4), (3, 2), (5, 0))))

    def test_nothing_loaded_and_equal_floors(self):
        for web in (line(1), line(5), grid(5, 8), Web(40, ()), side_by_side(line(2), line(3))):
            shades = sides(web)
            self.assertEqual((carriage(web, shades, shades), carry(web, shades, shades)), ((), 0))
            every = tuple(1 - side for side in shades)
            self.assertEqual((carriage(web, every, every), carry(web, every, every)), (tuple((x, x) for x in range(web.size)), 0))
        self.assertEqual(cost(WEB, ()), 0)

    def test_webs_of_forty_cells(self):
        chance = Random(37)
        webs = [line(40), ring(40), grid(5, 8), grid(4, 10), two_rows(4, 36), two_rows(20, 8), tree(40, 3), renamed(line(40), 4)]
        webs += [side_by_side(grid(4, 5), ring(10), line(10))]
        for web in webs:
            shades = sides(web)
            for many in (web.size // 2, web.size - 3) if len(slow_parts(web)) == 1 else ():
                one, two = random_load(web, shades, many, chance), random_load(web, shades, many, chance)
                self.check(web, one, two)
                self.assertEqual(carry(web, one, two), carry(web, two, one))
            one = random_load(web, shades, 25, chance)
            self.assertEqual(carry(web, one, one), 0)
        # From the first half of a line to the last one each load goes 20 links.
        first, last = floor_of_load(line(40), tuple(range(20))), floor_of_load(line(40), tuple(range(20, 40)))
        self.assertEqual(carry(line(40), first, last), 400)
        self.assertEqual(carry(ring(40), first, last), 200)

    def test_lines(self):
        # On a line the loads keep their order.
        chance = Random(41)
        for n in (10, 25, 40):
            shades = sides(line(n))
            for many in (1, 3, n // 2, n - 1):
                one, two = random_load(line(n), shades, many, chance), random_load(line(n), shades, many, chance)
                pairs = zip(*[[x for x in range(n) if floor[x] != shades[x]] for floor in (one, two)])
                self.assertEqual(carry(line(n), one, two), sum(abs(s - t) for s, t in pairs))

    def test_several_parts(self):
        web = side_by_side(line(3), grid(2, 2), line(1), line(2))
        one, two = floor_of_load(web, (0, 3, 4, 7)), floor_of_load(web, (2, 4, 6, 7))
        self.assertEqual(carry(web, one, two), 4)
        pairs = self.check(web, one, two)
        self.assertEqual(pairs[0], (0, 2))
        self.assertEqual(cost(web, ((0, 2), (3, 6), (4, 4), (7, 7))), 4)

    def test_cost_of_other_pairs(self):
        self.assertEqual(cost(line(40), ((0, 39), (39, 0), (0, 39))), 117)
        self.assertEqual(cost(WEB, ((2, 3),)), 3)
        self.assertEqual(cost(WEB, ((0, 0), (5, 5))), 0)

    def test_errors_in_order(self):
        for web, least in ONE_SIDED:
            for call in (carriage, carry):
                self.refuses(OneSided, least, call, web, (9,), (9,))
            self.refuses(OneSided, least, cost, web, ())
            self.refuses(OneSided, least, cost, web, ((least, least),))
        two_lines = side_by_side(line(2), line(2), line(1))
        for call in (carriage, carry):
            self.refuses(BadSize, 5, call, WEB, (9,) * 5, (9,))
            self.refuses(BadCoat, 4, call, WEB, (0, 0, 0, 0, 2, -1), (9,))
            self.refuses(BadSize, 1, call, WEB, ALL_0, (9,))
            self.refuses(BadCoat, 0, call, WEB, ALL_0, (-1, 0, 0, 0, 0, 9))
            self.refuses(NotSame, 0, call, WEB, ALL_0, (0, 0, 0, 0, 0, 1))
            self.refuses(NotSame, 2, call, two_lines, floor_of_load(two_lines, (0, 2)), floor_of_load(two_lines, (1, 4)))
            self.refuses(NotSame, 0, call, two_lines, floor_of_load(two_lines, (0, 2)), floor_of_load(two_lines, (2, 3)))
            self.refuses(NotSame, 4, call, two_lines, floor_of_load(two_lines, (0, 2)), floor_of_load(two_lines, (1, 3, 4)))


class Judged(Case):
    def test_example(self):
        for pairs in (((1, 0), (3, 4), (5, 2)), ((1, 4), (3, 2), (5, 0)), ((1, 2), (3, 0), (5, 4))):
            self.is_true(carriage_right(web=WEB, one=ALL_0, two=ALL_1, pairs=pairs))

    def test_all_carriages_and_no_others(self):
        one, two = floor_of_load(WEB, (1, 2)), floor_of_load(WEB, (2, 3))
        right = [((1, 2), (2, 3)), ((1, 3), (2, 2))]
        tried = [(p, q) for p in permutations(range(6), 2) for q in permutations(range(6), 2)] + right
        tried += [((1, s), (2, t)) for s in range(-1, 7) for t in range(-1, 7)]
        for pairs in tried:
            self.assertIs(carriage_right(WEB, one, two, pairs), pairs in right)

    def test_order_and_number(self):
        self.is_false(carriage_right(WEB, ALL_0, ALL_1, ((3, 4), (1, 0), (5, 2))))
        self.is_false(carriage_right(WEB, ALL_0, ALL_1, ((1, 0), (3, 4))))
        self.is_false(carriage_right(WEB, ALL_0, ALL_1, ((1, 0), (3, 4), (5, 2), (5, 2))))
        self.is_false(carriage_right(WEB, ALL_0, ALL_1, ((1, 0), (1, 0), (3, 4), (5, 2))))
        self.is_false(carriage_right(WEB, ALL_0, ALL_1, ((1, 0), (3, 0), (5, 2))))
        self.is_false(carriage_right(WEB, ALL_0, ALL_1, ((0, 1), (2, 5), (4, 3))))
        self.is_false(carriage_right(WEB, ALL_0, ALL_1, ()))

    def test_both_in_one_part(self):
        web = side_by_side(line(2), line(2))
        one, two = floor_of_load(web, (0, 2)), floor_of_load(web, (1, 3))
        self.is_true(carriage_right(web, one, two, ((0, 1), (2, 3))))
        self.is_false(carriage_right(web, one, two, ((0, 3), (2, 1))))
        # They do not fit, though as many cells are loaded.
        three = floor_of_load(web, (2, 3))
        for pairs in (((0, 2), (2, 3)), ((0, 3), (2, 2))):
            self.is_false(carriage_right(web, one, three, pairs))

    def test_equal_floors(self):
        shades = sides(WEB)
        self.is_true(carriage_right(WEB, shades, shades, ()))
        self.is_false(carriage_right(WEB, shades, shades, ((0, 0),)))
        self.is_true(carriage_right(WEB, ALL_0, ALL_0, ((1, 1), (3, 3), (5, 5))))
        self.is_true(carriage_right(WEB, ALL_0, ALL_0, ((1, 3), (3, 5), (5, 1))))

    def test_one_sided_webs(self):
        for web, _ in ONE_SIDED:
            self.is_false(carriage_right(web, (0,) * web.size, (0,) * web.size, ()))

    def test_other_forms(self):
        pairs = ((1, 0), (3, 4), (5, 2))
        for thing in ODD_THINGS + (nested(49), ((1, 0), (3, 4), (5, 2, 0)), ((1, 0), (3, 4), (5,)), ((1, 0), (3, 4), "52"), ((1, 0), (3, 4), None),
                                   ((1, 0), (3, 4), (5, "2")), ((1, 0), (3, 4), (5, (2,))), ((1, 0), (3, 4), (5, 10 ** 30)), (0,) * 6):
            self.is_false(carriage_right(WEB, ALL_0, ALL_1, thing))
            if thing != ALL_0:
                self.is_false(carriage_right(WEB, thing, ALL_1, pairs))
                self.is_false(carriage_right(WEB, ALL_0, thing, pairs))
        for floor in ((0,) * 5, (0,) * 7, (0, 0, 0, 0, 0, 2), (0, 0, 0, 0, 0, -1), (0, 0, 0, 0, 0, None), (0, 0, 0, 0, 0, "0")):
            self.is_false(carriage_right(WEB, floor, ALL_1, pairs))
            self.is_false(carriage_right(WEB, ALL_1, floor, ((0, 1), (2, 5), (4, 3))))
