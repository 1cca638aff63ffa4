from itertools import product
from math import comb

from making import (
    Case, all_floors, crowded, full, grid, line, made, renamed, ring, side_by_side, slow_odd, slow_sides, slow_surplus, two_rows,
)

from pairfloors.errors import BadAnswer, BadCount, BadSize, TooLarge
from pairfloors.lots import lot_size, odd_lot, side_lot
from pairfloors.webs import Web
from pairfloors.worlds import World


def surpluses(light, dark, coats):
    """The surplus of each way to give coats to so many light and dark cells."""
    for row in product(range(coats), repeat=light + dark):
        yield tuple(row[:light].count(coat) - row[light:].count(coat) for coat in range(coats))


class SideLot(Case):
    def test_examples(self):
        self.assertEqual(side_lot(3, 3, (-1, 0, 1)), 60)
        self.assertEqual(side_lot(light=0, dark=0, surplus=(0,)), 1)

    def test_by_floors(self):
        for light, dark in product(range(4), repeat=2):
            for coats in (1, 2, 3):
                found = list(surpluses(light, dark, coats))
                for row in product(range(-dark - 1, light + 2), repeat=coats):
                    self.assertEqual(side_lot(light, dark, row), found.count(row), (light, dark, row))

    def test_the_sum_over_all_surpluses(self):
        for light, dark, coats in ((4, 2, 4), (0, 3, 5), (1, 1, 6), (7, 6, 2), (5, 5, 3)):
            rows = product(range(-dark, light + 1), repeat=coats)
            self.assertEqual(sum(side_lot(light, dark, row) for row in rows if sum(row) == light - dark), coats ** (light + dark))

    def test_no_way(self):
        for row in ((0,), (0, 0, 0), (1, 1), (10 ** 3999, 1 - 10 ** 3999), (-10 ** 30, 10 ** 30 + 1), (40, -39), (2, -1, 10 ** 30)):
            self.assertEqual(side_lot(3, 2, row), 0)
        self.assertEqual(side_lot(0, 0, (1, -1)), 0)
        self.assertEqual(side_lot(1, 0, (0,)), 0)
        self.assertEqual(side_lot(40, 40, (41, -41)), 0)

    def test_no_cells(self):
        for coats in range(1, 7):
            self.assertEqual(side_lot(0, 0, (0,) * coats), 1)
            self.assertEqual(side_lot(0, 0, (0,) * (coats - 1) + (1,)), 0)
            self.assertEqual(side_lot(1, 0, (0,) * (coats - 1) + (1,)), 1)
            self.assertEqual(side_lot(0, 2, (0,) * (coats - 1) + (-2,)), 1)

    def test_the_greatest_arguments(self):
        self.assertEqual(side_lot(40, 40, (0,)), 1)
        self.assertEqual(side_lot(40, 40, (0, 0)), comb(80, 40))
        self.assertEqual(side_lot(40, 40, (40, -40, 0, 0, 0, 0)), 1)
        self.assertEqual(side_lot(40, 40, (0,) * 6), 6710808924308403895947675999397468718194852387440533897076)
        self.assertEqual(side_lot(40, 0, (20, 20)), comb(40, 20))
        self.assertEqual(side_lot(0, 40, (-20, 0, 0, 0, 0, -20)), comb(40, 20))
        self.assertEqual(sum(side_lot(40, 39, (k, 1 - k)) for k in range(-39, 41)), 2 ** 79)

    def test_errors_in_order(self):
        for bad in (-1, 41, 10 ** 30, -10 ** 30):
            self.refuses(BadCount, bad, side_lot, bad, 77, ())
            self.refuses(BadCount, bad, side_lot, bad, 0, (0,))
            self.refuses(BadCount, bad, side_lot, 0, bad, ())
            self.refuses(BadCount, bad, side_lot, 40, bad, (0,) * 7)
        for row in ((), (0,) * 7, (0,) * 40, (10 ** 30,) * 7):
            self.refuses(BadAnswer, row, side_lot, 0, 40, row)


class OddLot(Case):
    def test_examples(self):
        self.assertEqual(odd_lot(6, 3, 0), 183)
        self.assertEqual(odd_lot(6, 3, 2), 182)
        self.assertEqual(odd_lot(n=0, coats=2, many=0), 1)
        self.assertEqual(odd_lot(3, 2, 2), 0)

    def test_by_floors(self):
        for n in range(7):
            for coats in (2, 3, 4):
                rows = [tuple(row.count(coat) % 2 for coat in range(coats)) for row in product(range(coats), repeat=n)]
                for odd in product((0, 1), repeat=coats):
                    self.assertEqual(odd_lot(n, coats, sum(odd)), rows.count(odd))

    def test_the_sum_over_all_sets(self):
        for coats in range(2, 7):
            for n in (0, 1, 2, 5, 16, 39, 40):
                self.assertEqual(sum(comb(coats, r) * odd_lot(n, coats, r) for r in range(coats + 1)), coats ** n)
                self.assertEqual([odd_lot(n, coats, r) for r in range(coats + 1) if (n - r) % 2], [0] * len(range((n + 1) % 2, coats + 1, 2)))

    def test_errors_in_order(self):
        for n in (-1, 41, 10 ** 30, -10 ** 30):
            self.refuses(BadCount, n, odd_lot, n, 77, 99)
            self.refuses(BadCount, n, odd_lot, n, 2, 0)
        for coats in (1, 0, -1, 7, 10 ** 30, -10 ** 30):
            self.refuses(BadCount, coats, odd_lot, 0, coats, 99)
            self.refuses(BadCount, coats, odd_lot, 40, coats, 0)
        for many in (-1, 4, 10 ** 30, -10 ** 30):
            self.refuses(BadAnswer, many, odd_lot, 40, 3, many)
        self.refuses(BadAnswer, 7, odd_lot, 0, 6, 7)


class LotSize(Case):
    def test_examples(self):
        self.assertEqual(lot_size(grid(2, 3), 3, (-1, 0, 1)), 60)
        self.assertEqual(lot_size(line(1), 2, (1, 0)), 1)
        self.assertEqual(lot_size(web=line(1), coats=2, key=(0, 1)), 1)
        self.assertEqual(lot_size(line(1), 2, (0, 0)), 0)

    def test_by_floors(self):
        for web in (line(1), line(4), ring(3), ring(5), grid(2, 2), grid(2, 3), full(4), two_rows(1, 4), renamed(line(5), 3),
                    made(5, list(ring(3).links) + [(0, 3), (3, 4)])):
            for coats in (2, 3):
                world, part = World(web, coats), tuple(range(web.size))
                key_of = slow_odd if slow_sides(web)[0] < 0 else slow_surplus
                keys = [key_of(world, floor, part) for floor in all_floors(world)]
                for key in set(keys):
                    self.assertEqual(lot_size(web, coats, key), keys.count(key))

    def test_keys_that_no_floor_has(self):
        for key in ((0, 0, 0, 1), (4, -4, 0, 0), (10 ** 30, -10 ** 30, 0, 0), (1, -10 ** 3999, 0, 0)):
            self.assertEqual(lot_size(grid(2, 3), 4, key), 0)
        for key in ((0,), (3,), (0, 1, 2), (0, 1, 2, 3)):
            self.assertEqual(lot_size(full(4), 4, key) > 0, key == (0, 1, 2, 3))
        self.assertEqual(lot_size(ring(3), 6, (0, 1, 2, 3, 5)), 0)

    def test_the_largest_webs(self):
        self.assertEqual(lot_size(crowded(16, 100), 6, ()), odd_lot(16, 6, 0))
        self.assertEqual(lot_size(grid(4, 4), 6, (0,) * 6), side_lot(8, 8, (0,) * 6))
        self.assertEqual(lot_size(two_rows(1, 15), 2, (0, -14)), 16)

    def test_errors_in_order(self):
        for web, many in ((Web(2, ()), 2), (side_by_side(ring(3), line(40 - 4), line(1)), 3), (Web(40, ()), 40)):
            for coats in (2, 1):
                self.refuses(BadSize, many, lot_size, web, coats, (0, 0, 9))
        for coats in (1, 0, -1, 7, 10 ** 30, -10 ** 30):
            self.refuses(BadCount, coats, lot_size, grid(4, 5), coats, ())
            self.refuses(BadCount, coats, lot_size, full(4), coats, (9,))
        for web in (line(17), grid(5, 8), crowded()):
            self.refuses(TooLarge, web.size, lot_size, web, 2, (9,))
            self.refuses(TooLarge, web.size, lot_size, web, 2, (0, 0))
        for key in ((), (0,), (0, 0, 0), (10 ** 30,), (0,) * 16):
            self.refuses(BadAnswer, key, lot_size, grid(4, 4), 2, key)
        for key in ((2,), (-1,), (0, 0), (1, 0), (0, 1, 2), (0, 1, 1), (10 ** 30,), (0, -10 ** 30)):
            self.refuses(BadAnswer, key, lot_size, full(4), 2, key)
