from random import Random

from making import (
    ODD_THINGS, Case, all_floors, full, grid, line, made, random_load, renamed, ring, side_by_side, slow_far, slow_fits, slow_loaded,
    slow_parts, tree, two_rows, two_sided_webs,
)

from pairfloors.carriage import carry
from pairfloors.errors import BadCoat, BadSize, NotSame, OneSided
from pairfloors.heights import heights, heights_right, rise
from pairfloors.loaded import floor_of_load
from pairfloors.sides import sides
from pairfloors.webs import Web
from pairfloors.worlds import World

ONE_SIDED = ((ring(3), 0), (side_by_side(line(2), ring(4), full(4), ring(5)), 6), (made(5, [(0, 4), (1, 2), (2, 3), (1, 3)]), 1))
WEB = grid(2, 3)
ALL_0, ALL_1 = (0,) * 6, (1,) * 6
LEVELS = (1, 0, 1, 0, 1, 0)


def slow_rise(web, one, two, levels):
    return sum(levels[x] for x in slow_loaded(web, two)) - sum(levels[x] for x in slow_loaded(web, one))


class Rise(Case):
    def test_example(self):
        self.assertEqual(rise(WEB, ALL_0, ALL_1, LEVELS), 3)
        self.assertEqual(rise(web=WEB, one=ALL_1, two=ALL_0, levels=LEVELS), -3)

    def test_any_floors_and_numbers(self):
        chance = Random(43)
        for web in two_sided_webs():
            floors = all_floors(World(web, 2))
            for _ in range(20):
                one, two = chance.choice(floors), chance.choice(floors)
                levels = tuple(chance.randint(-10 ** 30, 10 ** 30) for _ in range(web.size))
                self.assertEqual(rise(web, one, two, levels), slow_rise(web, one, two, levels))

    def test_floors_that_do_not_fit(self):
        self.assertEqual(rise(line(1), (0,), (1,), (-7,)), -7)
        self.assertEqual(rise(line(1), (1,), (0,), (-7,)), 7)
        self.assertEqual(rise(Web(40, ()), (0,) * 40, (1,) * 40, tuple(range(40))), 780)

    def test_errors_in_order(self):
        for web, least in ONE_SIDED:
            self.refuses(OneSided, least, rise, web, (9,), (9,), ())
        self.refuses(BadSize, 5, rise, WEB, (9,) * 5, (9,), ())
        self.refuses(BadCoat, 4, rise, WEB, (0, 0, 0, 0, 2, -1), (9,), ())
        self.refuses(BadSize, 1, rise, WEB, ALL_0, (9,), ())
        self.refuses(BadCoat, 0, rise, WEB, ALL_0, (-1, 0, 0, 0, 0, 9), ())


class Heights(Case):
    def check(self, web, one, two):
        levels = heights(web, one, two)
        least = carry(web, one, two)
        self.assertIs(levels.__class__, tuple)
        self.assertEqual(len(levels), web.size)
        self.assertTrue(all(abs(levels[a] - levels[b]) <= 1 for a, b in web.links))
        self.assertEqual(rise(web, one, two, levels), least)
        self.is_true(heights_right(web, one, two, least, levels))
        self.is_false(heights_right(web, one, two, least + 1, levels))

    def test_example(self):
        self.check(WEB, ALL_0, ALL_1)
        self.assertEqual(rise(WEB, ALL_0, ALL_1, heights(web=WEB, one=ALL_0, two=ALL_1)), 3)

    def test_by_deeds(self):
        for web in two_sided_webs():
            floors, chance = all_floors(World(web, 2)), Random(web.size)
            for one in chance.sample(floors, min(3, len(floors))):
                for two, steps in slow_far(World(web, 2), one).items():
                    self.assertEqual(slow_rise(web, one, two, heights(web, one, two)), steps)
                    self.check(web, one, two)

    def test_webs_of_forty_cells(self):
        chance = Random(47)
        for web in (line(40), ring(40), grid(5, 8), grid(4, 10), two_rows(4, 36), two_rows(20, 8), tree(40, 3), renamed(line(40), 4)):
            shades = sides(web)
            for many in (0, 1, web.size // 2, web.size // 2, web.size - 7, web.size):
                self.check(web, random_load(web, shades, many, chance), random_load(web, shades, many, chance))
        self.check(line(40), floor_of_load(line(40), tuple(range(20))), floor_of_load(line(40), tuple(range(20, 40))))
        self.check(line(40), floor_of_load(line(40), (0,)), floor_of_load(line(40), (39,)))
        self.check(Web(40, ()), (0,) * 40, (0,) * 40)

    def test_several_parts(self):
        web = renamed(side_by_side(line(9), grid(4, 4), ring(8), line(1), tree(6, 2)), 5)
        shades, chance = sides(web), Random(53)
        for _ in range(5):
            one = random_load(web, shades, 20, chance)
            cells = []
            for part in slow_parts(web):
                cells += chance.sample(part, sum(one[x] != shades[x] for x in part))
            self.check(web, one, floor_of_load(web, tuple(sorted(cells))))

    def test_errors_in_order(self):
        for web, least in ONE_SIDED:
            self.refuses(OneSided, least, heights, web, (9,), (9,))
        self.refuses(BadSize, 5, heights, WEB, (9,) * 5, (9,))
        self.refuses(BadCoat, 4, heights, WEB, (0, 0, 0, 0, 2, -1), (9,))
        self.refuses(BadSize, 1, heights, WEB, ALL_0, (9,))
        self.refuses(BadCoat, 0, heights, WEB, ALL_0, (-1, 0, 0, 0, 0, 9))
        self.refuses(NotSame, 0, heights, WEB, ALL_0, (0, 0, 0, 0, 0, 1))
        web = side_by_side(line(2), line(2))
        self.refuses(NotSame, 2, heights, web, floor_of_load(web, (0, 2)), floor_of_load(web, (1,)))


class Judged(Case):
    def test_example(self):
        self.is_true(heights_right(web=WEB, one=ALL_0, two=ALL_1, n=3, levels=LEVELS))
        for n in (2, 1, 0, -1, -10 ** 30):
            self.is_true(heights_right(WEB, ALL_0, ALL_1, n, LEVELS))
        for n in (4, 5, 10 ** 30):
            self.is_false(heights_right(WEB, ALL_0, ALL_1, n, LEVELS))

    def test_equal_levels_and_rises_below_0(self):
        for level in (0, -7, 10 ** 30):
            self.is_true(heights_right(WEB, ALL_0, ALL_1, 0, (level,) * 6))
            self.is_false(heights_right(WEB, ALL_0, ALL_1, 1, (level,) * 6))
        self.is_true(heights_right(WEB, ALL_1, ALL_0, -3, LEVELS))
        self.is_false(heights_right(WEB, ALL_1, ALL_0, -2, LEVELS))

    def test_levels_that_differ_by_more(self):
        for levels in ((2, 0, 1, 0, 1, 0), (1, 0, 1, 0, 1, -1), (1, 0, 2, 0, 1, 0), (0, 1, 3, 0, 1, 2), (1, 0, 1, -1, 1, 0)):
            self.is_false(heights_right(WEB, ALL_0, ALL_1, -100, levels))
        self.is_true(heights_right(WEB, ALL_0, ALL_1, -100, (0, 1, 2, 0, 1, 2)))
        # Cells that are not linked may differ by any number.
        self.is_true(heights_right(side_by_side(line(2), line(2)), (0, 0, 0, 0), (1, 1, 0, 0), -9, (5, 6, -10 ** 30, -10 ** 30)))

    def test_no_wrong_judgement(self):
        # No heights rise more than the shortest run is long.
        chance = Random(59)
        for web in two_sided_webs():
            floors = all_floors(World(web, 2))
            one = chance.choice(floors)
            away = slow_far(World(web, 2), one)
            for two in chance.sample(floors, min(len(floors), 12)):
                for _ in range(12):
                    levels = tuple(chance.randint(0, 2) for _ in range(web.size))
                    for n in range(-2, 9):
                        right = all(abs(levels[a] - levels[b]) <= 1 for a, b in web.links) and slow_fits(web, one, two)
                        right = right and slow_rise(web, one, two, levels) >= n
                        self.assertIs(heights_right(web, one, two, n, levels), right)
                        if right:
                            self.assertGreaterEqual(away[two], n)

    def test_floors_that_do_not_fit(self):
        self.is_false(heights_right(WEB, ALL_0, (0, 0, 0, 0, 0, 1), -100, LEVELS))
        web = side_by_side(line(2), line(2))
        self.is_false(heights_right(web, floor_of_load(web, (0, 1)), floor_of_load(web, (1, 2)), -100, (0,) * 4))
        self.is_true(heights_right(web, floor_of_load(web, (0, 2)), floor_of_load(web, (1, 2)), -100, (0,) * 4))

    def test_one_sided_webs(self):
        for web, _ in ONE_SIDED:
            self.is_false(heights_right(web, (0,) * web.size, (0,) * web.size, 0, (0,) * web.size))

    def test_other_forms(self):
        for thing in ODD_THINGS + ((0,) * 5, (0,) * 7, (0, 0, 0, 0, 0, "0"), (0, 0, 0, 0, 0, None), (0, 0, 0, 0, 0, (0,))):
            self.is_false(heights_right(WEB, ALL_0, ALL_1, -100, thing))
            self.is_false(heights_right(WEB, thing, ALL_1, -100, LEVELS))
            self.is_false(heights_right(WEB, ALL_0, thing, -100, LEVELS))
            if not isinstance(thing, int):
                self.is_false(heights_right(WEB, ALL_0, ALL_1, thing, LEVELS))
        for floor in ((0, 0, 0, 0, 0, 2), (0, 0, 0, 0, 0, -1), (2,) * 6):
            self.is_false(heights_right(WEB, floor, ALL_1, -100, LEVELS))
            self.is_false(heights_right(WEB, ALL_0, floor, -100, LEVELS))
