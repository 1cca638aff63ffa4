from random import Random

from making import (
    Case, all_floors, crowded, full, grid, line, made, random_floor, renamed, ring, side_by_side, slow_odd, slow_sides,
    slow_surplus, two_rows,
)

from pairfloors.errors import BadAnswer, BadCoat, BadCount, BadNumber, BadSize, TooLarge
from pairfloors.lotorder import lot_floor, lot_number
from pairfloors.lots import lot_size
from pairfloors.webs import Web
from pairfloors.worlds import World


def key_of(web, coats, floor):
    slow = slow_odd if slow_sides(web)[0] < 0 else slow_surplus
    return slow(World(web, coats), floor, tuple(range(web.size)))


class LotOrder(Case):
    def test_examples(self):
        web = grid(2, 3)
        self.assertEqual(lot_floor(web, 3, (-1, 0, 1), 0), (0, 0, 0, 0, 2, 0))
        self.assertEqual(lot_floor(web=web, coats=3, key=(-1, 0, 1), n=59), (2, 2, 2, 2, 2, 0))
        self.assertEqual(lot_number(web, 3, (2, 2, 2, 2, 2, 0)), 59)
        self.assertEqual(lot_number(web=web, coats=3, floor=(0, 0, 0, 0, 2, 0)), 0)
        self.assertEqual(lot_floor(web, 3, (-1, 0, 1), lot_number(web, 3, (0, 0, 1, 1, 2, 0))), (0, 0, 1, 1, 2, 0))

    def test_a_dot(self):
        self.assertEqual(lot_floor(line(1), 2, (1, 0), 0), (0,))
        self.assertEqual(lot_floor(line(1), 2, (0, 1), 0), (1,))
        for coats in (2, 6):
            for coat in range(coats):
                self.assertEqual(lot_number(line(1), coats, (coat,)), 0)

    def test_by_floors(self):
        for web in (line(1), line(2), line(4), ring(3), ring(5), grid(2, 2), grid(2, 3), full(4), two_rows(1, 4), renamed(line(5), 3),
                    made(5, list(ring(3).links) + [(0, 3), (3, 4)]), renamed(grid(2, 3), 5)):
            for coats in (2, 3):
                lots = {}
                for floor in sorted(all_floors(World(web, coats))):
                    lots.setdefault(key_of(web, coats, floor), []).append(floor)
                for key, floors in lots.items():
                    self.assertEqual([lot_floor(web, coats, key, n) for n in range(len(floors))], floors)
                    self.assertEqual([lot_number(web, coats, floor) for floor in floors], list(range(len(floors))))
                    self.refuses(BadNumber, len(floors), lot_floor, web, coats, key, len(floors))
                    self.refuses(BadNumber, -1, lot_floor, web, coats, key, -1)

    def test_webs_of_sixteen_cells(self):
        chance = Random(167)
        for web in (grid(4, 4), two_rows(1, 15), two_rows(8, 8), line(16), renamed(line(16), 1), ring(16), crowded(16, 100), full(16),
                    made(16, list(ring(15).links) + [(3, 15)])):
            for coats in (2, 3, 6):
                for _ in range(3):
                    floor = random_floor(World(web, coats), chance)
                    key = key_of(web, coats, floor)
                    n = lot_number(web, coats, floor)
                    many = lot_size(web, coats, key)
                    self.assertEqual(lot_floor(web, coats, key, n), floor)
                    for n in (0, many - 1, many // 2):
                        self.assertEqual(lot_number(web, coats, lot_floor(web, coats, key, n)), n)
                        self.assertEqual(key_of(web, coats, lot_floor(web, coats, key, n)), key)
                    if many > 1:
                        self.assertLess(lot_floor(web, coats, key, many // 2 - 1), lot_floor(web, coats, key, many // 2))
                    self.refuses(BadNumber, many, lot_floor, web, coats, key, many)

    def test_first_and_last(self):
        self.assertEqual(lot_floor(crowded(16, 100), 6, (), 0), (0,) * 16)
        self.assertEqual(lot_floor(crowded(16, 100), 6, (), lot_size(crowded(16, 100), 6, ()) - 1), (5,) * 16)
        self.assertEqual(lot_floor(grid(4, 4), 6, (0,) * 6, lot_size(grid(4, 4), 6, (0,) * 6) - 1), (5,) * 16)
        self.assertEqual(lot_number(grid(4, 4), 6, (5,) * 16), 5651108225)

    def test_keys_that_no_floor_has(self):
        for n in (0, 1, -1, 10 ** 30, -10 ** 30):
            for key in ((0, 0, 0, 1), (4, -4, 0, 0), (10 ** 30, -10 ** 30, 0, 0), (1, -10 ** 3999, 0, 0)):
                self.refuses(BadNumber, n, lot_floor, grid(2, 3), 4, key, n)
            self.refuses(BadNumber, n, lot_floor, full(4), 4, (1,), n)

    def test_errors_in_order(self):
        for web, many in ((Web(2, ()), 2), (side_by_side(ring(3), line(36), line(1)), 3)):
            for coats in (2, 1):
                self.refuses(BadSize, many, lot_floor, web, coats, (0, 0, 9), -1)
                self.refuses(BadSize, many, lot_number, web, coats, (9,))
        for coats in (1, 0, -1, 7, 10 ** 30, -10 ** 30):
            self.refuses(BadCount, coats, lot_floor, grid(4, 5), coats, (), -1)
            self.refuses(BadCount, coats, lot_number, grid(4, 5), coats, ())
            self.refuses(BadCount, coats, lot_number, full(4), coats, (0,) * 4)
        for web in (line(17), grid(5, 8), crowded()):
            self.refuses(TooLarge, web.size, lot_floor, web, 2, (9,), -1)
            self.refuses(TooLarge, web.size, lot_number, web, 2, (9,))
            self.refuses(TooLarge, web.size, lot_number, web, 2, (0,) * web.size)
        for key in ((), (0,), (0, 0, 0)):
            self.refuses(BadAnswer, key, lot_floor, grid(4, 4), 2, key, -1)
        for key in ((2,), (-1,), (0, 0), (1, 0), (0, 1, 2)):
            self.refuses(BadAnswer, key, lot_floor, full(4), 2, key, 99)
        for n in (-1, 60, 10 ** 30, -10 ** 30):
            self.refuses(BadNumber, n, lot_floor, grid(2, 3), 3, (-1, 0, 1), n)
        self.refuses(BadSize, 2, lot_number, full(4), 2, (9, 9))
        self.refuses(BadSize, 0, lot_number, full(4), 2, ())
        self.refuses(BadCoat, 1, lot_number, full(4), 2, (0, 2, 9, 0))
        self.refuses(BadCoat, 3, lot_number, grid(2, 2), 6, (0, 5, 0, -1))
