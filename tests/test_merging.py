from itertools import product
from random import Random

from making import (
    Case, crowded, full, grid, line, random_floor, random_run, renamed, ring, side_by_side, slow_far, slow_fits, slow_loaded, slow_parts,
    tree, two_rows, two_sided_webs,
)

from pairfloors.carriage import carry
from pairfloors.errors import BadCoat, BadMap, BadSize, NotSame, OneSided
from pairfloors.merging import merge_bound, merge_row, merged
from pairfloors.runs import run_right
from pairfloors.webs import Web
from pairfloors.worlds import World

SQUARE = World(grid(2, 2), 3)
ONE, TWO = (2, 1, 0, 0), (0, 0, 1, 2)


def slow_merged(floor, row):
    return tuple(row[coat] for coat in floor)


def merging_rows(coats):
    return sorted(product((0, 1), repeat=coats))


def carries(world, one, two):
    return {row: carry(world.web, slow_merged(one, row), slow_merged(two, row)) for row in merging_rows(world.coats)}


class Merged(Case):
    def test_example(self):
        self.assertEqual(merged(SQUARE, ONE, (0, 0, 1)), (1, 0, 0, 0))
        self.assertEqual(merged(world=SQUARE, floor=TWO, row=(0, 0, 1)), (0, 0, 0, 1))

    def test_all_rows(self):
        chance = Random(71)
        for web in (line(1), full(5), ring(7), grid(2, 3), Web(3, ()), crowded()):
            for coats in (2, 3, 6):
                world = World(web, coats, table=tuple((0, c) for c in range(1, coats)))
                floor = random_floor(world, chance)
                for row in merging_rows(coats):
                    self.assertEqual(merged(world, floor, row), slow_merged(floor, row))

    def test_runs_stay_runs(self):
        chance = Random(73)
        for web in (full(5), ring(7), grid(2, 3), line(6)):
            world = World(web, 4)
            floor = random_floor(world, chance)
            run, trail = random_run(world, floor, 30, chance)
            for row in merging_rows(4):
                kept = []
                for (x, y, coat), before in zip(run, trail):
                    if row[coat] != row[before[x]]:
                        kept.append((x, y, row[coat]))
                self.is_true(run_right(World(web, 2), merged(world, floor, row), merged(world, trail[-1], row), tuple(kept)))

    def test_errors_in_order(self):
        self.refuses(BadSize, 3, merged, SQUARE, (9, 9, 9), ())
        self.refuses(BadCoat, 1, merged, SQUARE, (0, 3, 0, -1), (2,))
        for row in ((), (0,), (0, 1), (0, 1, 0, 1), (2, 2, 2, 2), (9,)):
            self.refuses(BadMap, len(row), merged, SQUARE, ONE, row)
        for row, at in (((2, 0, 0), 0), ((0, -1, 0), 1), ((1, 1, 2), 2), ((0, 10 ** 30, -1), 1), ((0, 1, -10 ** 30), 2), ((3, 4, 5), 0)):
            self.refuses(BadMap, at, merged, SQUARE, ONE, row)


class MergeBound(Case):
    def test_example(self):
        self.assertEqual(merge_bound(SQUARE, ONE, TWO), 2)
        self.assertEqual(merge_row(SQUARE, ONE, TWO), (0, 0, 1))
        self.assertEqual(merge_bound(world=SQUARE, one=TWO, two=ONE), 2)
        self.assertEqual(merge_row(world=SQUARE, one=TWO, two=ONE), (0, 0, 1))

    def test_all_rows(self):
        chance = Random(79)
        for web in two_sided_webs() + [grid(3, 3), renamed(grid(3, 4), 2), line(9)]:
            for coats in (2, 3, 4, 5):
                world = World(web, coats)
                one = random_floor(world, chance)
                for two in (random_run(world, one, 3, chance)[1][-1], random_run(world, one, 30, chance)[1][-1]):
                    found = carries(world, one, two)
                    best = max(found.values())
                    self.assertEqual(merge_bound(world, one, two), best)
                    self.assertEqual(merge_row(world, one, two), min(row for row in found if found[row] == best))

    def test_no_run_is_shorter(self):
        chance = Random(83)
        for web, coats in ((grid(2, 2), 3), (line(5), 3), (grid(2, 3), 3), (ring(6), 3), (side_by_side(line(2), line(3)), 3), (grid(2, 2), 4)):
            for table in (None, tuple((c, c + 1) for c in range(coats - 1)), tuple((0, c) for c in range(1, coats))):
                world = World(web, coats, table=table)
                one = random_floor(world, chance)
                for two, steps in slow_far(world, one).items():
                    self.assertLessEqual(merge_bound(world, one, two), steps)

    def test_two_coats(self):
        for web in two_sided_webs():
            world, chance = World(web, 2), Random(89)
            one = random_floor(world, chance)
            two = random_run(world, one, 20, chance)[1][-1]
            self.assertEqual(merge_bound(world, one, two), carry(web, one, two))
            self.assertEqual(merge_row(world, one, two), (0, 1) if one != two else (0, 0))

    def test_equal_floors(self):
        for web in (line(1), grid(2, 3), Web(40, ()), side_by_side(line(2), line(3))):
            for coats in (2, 3, 6):
                floor = tuple(x % coats for x in range(web.size))
                self.assertEqual(merge_bound(World(web, coats), floor, floor), 0)
                self.assertEqual(merge_row(World(web, coats), floor, floor), (0,) * coats)

    def test_several_rows_are_as_good(self):
        world = World(line(4), 3)
        one, two = (0, 0, 1, 1), (1, 1, 1, 1)
        self.assertEqual([row for row, steps in carries(world, one, two).items() if steps == 1], [(0, 1, 0), (0, 1, 1), (1, 0, 0), (1, 0, 1)])
        self.assertEqual(merge_row(world, one, two), (0, 1, 0))
        self.assertEqual(merge_row(World(line(2), 6), (0, 0), (5, 5)), (0, 0, 0, 0, 0, 1))
        self.assertEqual(merge_row(World(line(2), 6), (5, 5), (4, 4)), (0, 0, 0, 0, 0, 1))
        self.assertEqual(merge_row(World(line(2), 6), (0, 0), (1, 1)), (0, 1, 0, 0, 0, 0))

    def test_webs_of_forty_cells(self):
        chance = Random(97)
        for web in (grid(5, 8), line(40), ring(40), tree(40, 3), two_rows(4, 36)):
            world = World(web, 6)
            one = tuple(chance.choice((0, 0, coat)) for coat in random_floor(world, chance))
            two = random_run(world, one, 200, chance)[1][-1]
            found = carries(world, one, two)
            self.assertEqual(merge_bound(world, one, two), max(found.values()))
            self.assertEqual(found[merge_row(world, one, two)], max(found.values()))

    def test_floors_that_do_not_fit(self):
        web = side_by_side(line(2), line(2))
        world = World(web, 3)
        # Coat 2 tells the second part apart; coats 0 and 1 alone tell the first one apart, but by a later row.
        one, two = (0, 1) + (2, 0), (1, 0) + (0, 2)
        for call in (merge_bound, merge_row):
            self.refuses(NotSame, 2, call, world, one, two)
            self.refuses(NotSame, 0, call, world, (0, 2) + (2, 0), (2, 0) + (0, 2))
            self.refuses(NotSame, 0, call, world, (0, 1) + (1, 0), (1, 0) + (0, 1))
            self.refuses(NotSame, 2, call, world, (0, 0) + (1, 0), (1, 1) + (0, 1))

    def test_the_first_row_that_does_not_fit(self):
        chance = Random(101)
        for web in (side_by_side(line(2), ring(4), line(1)), renamed(side_by_side(line(3), line(3)), 2), grid(2, 3)):
            for coats in (3, 4):
                world = World(web, coats)
                for _ in range(30):
                    one, two = random_floor(world, chance), random_floor(world, chance)
                    rows = [row for row in merging_rows(coats) if not slow_fits(web, slow_merged(one, row), slow_merged(two, row))]
                    if rows:
                        first, second = (slow_loaded(web, slow_merged(floor, rows[0])) for floor in (one, two))
                        unlike = [part[0] for part in slow_parts(web) if len(set(first) & set(part)) != len(set(second) & set(part))]
                        self.refuses(NotSame, unlike[0], merge_bound, world, one, two)
                        self.refuses(NotSame, unlike[0], merge_row, world, one, two)

    def test_errors_in_order(self):
        odd = World(side_by_side(line(2), ring(3)), 3)
        good = (0,) * 5
        for call in (merge_bound, merge_row):
            self.refuses(BadSize, 4, call, odd, (9,) * 4, (9,))
            self.refuses(BadCoat, 2, call, odd, (0, 0, 3, -1, 0), (9,))
            self.refuses(BadSize, 1, call, odd, good, (9,))
            self.refuses(BadCoat, 4, call, odd, good, (0, 0, 0, 0, 3))
            self.refuses(OneSided, 2, call, odd, good, good)
            self.refuses(OneSided, 2, call, odd, good, (0, 1, 0, 0, 0))
            self.refuses(OneSided, 0, call, World(crowded(), 2), (0,) * 40, (1,) * 40)
