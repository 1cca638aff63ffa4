from collections import Counter
from math import comb
from random import Random

from making import (
    Case, all_floors, collar, crowded, full, grid, line, made, random_floor, renamed, ring, side_by_side, slow_classes, slow_far,
    slow_kind, slow_odd, slow_parts, slow_sides, slow_still, slow_surplus, two_rows,
)

from pairfloors.errors import BadAnswer, BadCoat, BadCount, BadSize, Narrow, TooLarge
from pairfloors.lots import lot_size
from pairfloors.stills import class_count, class_size, still_count, still_lot
from pairfloors.webs import Web
from pairfloors.worlds import World

TAILED = made(5, list(ring(3).links) + [(0, 3), (3, 4)])
WEBS = (
    line(1), line(2), line(5), ring(3), ring(5), ring(6), grid(2, 2), grid(2, 3), full(4), full(5), two_rows(2, 3), two_rows(1, 4),
    renamed(line(5), 3), renamed(grid(2, 3), 5), TAILED, Web(2, ()), Web(5, ()), side_by_side(ring(3), line(2)), collar(3),
    side_by_side(line(1), ring(4)), side_by_side(line(2), line(1), ring(3)), two_rows(3, 3),
)


def still_floors(web, coats):
    world = World(web, coats)
    return [floor for floor in all_floors(world) if slow_still(world, floor, range(web.size))]


def key_of(web, coats, floor):
    slow = slow_odd if slow_sides(web)[0] < 0 else slow_surplus
    return slow(World(web, coats), floor, tuple(range(web.size)))


class StillCount(Case):
    def test_examples(self):
        self.assertEqual([still_count(grid(2, 2), coats) for coats in (2, 3, 4)], [2, 18, 84])
        self.assertEqual(still_count(web=collar(3), coats=3), 12)
        self.assertEqual(still_count(ring(5), 3), 30)

    def test_by_floors(self):
        for web in WEBS:
            for coats in (2, 3, 4) if web.size < 6 else (2, 3):
                self.assertEqual(still_count(web, coats), len(still_floors(web, coats)), (web.links, coats))

    def test_webs_without_links(self):
        for size, coats in ((1, 2), (1, 6), (14, 2), (9, 3), (5, 6)):
            self.assertEqual(still_count(Web(size, ()), coats), coats ** size)

    def test_large_webs(self):
        self.assertEqual(still_count(line(14), 2), 2)
        self.assertEqual(still_count(renamed(line(9), 2), 3), 3 * 2 ** 8)
        self.assertEqual(still_count(ring(7), 4), 3 ** 7 - 3)
        self.assertEqual(still_count(full(6), 5), 0)
        self.assertEqual(still_count(full(5), 6), 720)
        self.assertEqual(still_count(renamed(side_by_side(line(7), line(7)), 3), 2), 4)

    def test_the_limit(self):
        # 2 ** 14, 3 ** 9, 4 ** 7, 5 ** 6 and 6 ** 5 are the last ones that are let.
        for coats, most in ((2, 14), (3, 9), (4, 7), (5, 6), (6, 5)):
            self.assertEqual(still_count(line(most), coats), coats * (coats - 1) ** (most - 1))
            self.refuses(TooLarge, coats ** (most + 1), still_count, line(most + 1), coats)
            self.refuses(TooLarge, coats ** 40, still_count, Web(40, ()), coats)

    def test_errors_in_order(self):
        for coats in (1, 0, -1, 7, 10 ** 30, -10 ** 30):
            self.refuses(BadCount, coats, still_count, line(1), coats)
            self.refuses(BadCount, coats, still_count, crowded(), coats)


class StillLot(Case):
    def test_examples(self):
        self.assertEqual(still_lot(web=collar(3), coats=3, key=()), 12)
        for key in ((0, 1), (0, 2), (1, 2), (0,)):
            self.assertEqual(still_lot(collar(3), 3, key), 0)
        self.assertEqual([still_lot(line(1), 2, key) for key in ((1, 0), (0, 1), (0, 0), (1, 1))], [1, 1, 0, 0])

    def test_by_floors(self):
        for web in WEBS:
            for coats in (2, 3) if len(slow_parts(web)) == 1 else ():
                found = Counter(key_of(web, coats, floor) for floor in still_floors(web, coats))
                for floor in all_floors(World(web, coats)):
                    key = key_of(web, coats, floor)
                    self.assertEqual(still_lot(web, coats, key), found[key], (web.links, key))

    def test_keys_that_no_floor_has(self):
        for key in ((0, 0, 0), (1, 0, 0), (9, -9, 0), (10 ** 30, -10 ** 30, 0), (10 ** 3999, 0, 0)):
            self.assertEqual(still_lot(grid(2, 2), 3, key), 0)
        self.assertEqual([still_lot(grid(2, 2), 3, key) for key in ((2, -2, 0), (2, -1, -1), (1, 1, -2))], [1, 2, 2])
        self.assertEqual(still_lot(ring(3), 4, (0,)), 0)
        self.assertEqual(still_lot(ring(3), 4, (0, 1, 3)), 6)

    def test_the_limit(self):
        self.assertEqual(still_lot(line(14), 2, (7, -7)), 1)
        self.assertEqual(still_lot(line(14), 2, (-7, 7)), 1)
        self.assertEqual(still_lot(full(6), 5, ()), 0)
        self.assertEqual(still_lot(full(5), 6, (0, 1, 2, 3, 5)), 120)
        self.assertEqual(still_lot(two_rows(1, 8), 3, (1, -8, 0)), 1)
        self.assertEqual(still_lot(two_rows(1, 8), 3, (1, -4, -4)), comb(8, 4))

    def test_errors_in_order(self):
        for web, many in ((Web(2, ()), 2), (side_by_side(ring(3), line(36), line(1)), 3)):
            for coats in (2, 1):
                self.refuses(BadSize, many, still_lot, web, coats, (0, 0, 9))
        for coats in (1, 0, -1, 7, 10 ** 30, -10 ** 30):
            self.refuses(BadCount, coats, still_lot, grid(4, 5), coats, (9,))
            self.refuses(BadCount, coats, still_lot, full(4), coats, ())
        for web, coats in ((line(15), 2), (line(16), 2), (line(17), 2), (grid(2, 5), 3), (crowded(), 6), (ring(6), 6)):
            for key in ((9,), (0,) * coats):
                self.refuses(TooLarge, coats ** web.size, still_lot, web, coats, key)
        for key in ((), (0,), (0, 0, 0), (10 ** 30,)):
            self.refuses(BadAnswer, key, still_lot, grid(2, 2), 2, key)
        for key in ((2,), (-1,), (0, 0), (1, 0), (0, 1, 2), (10 ** 30,)):
            self.refuses(BadAnswer, key, still_lot, full(4), 2, key)


class ClassCount(Case):
    def test_examples(self):
        self.assertEqual([class_count(grid(2, 2), coats) for coats in (2, 3, 4)], [5, 25, 97])
        self.assertEqual(class_count(web=collar(3), coats=3), 16)
        self.assertEqual(class_count(ring(5), 3), 35)
        self.assertEqual([class_count(line(1), coats) for coats in range(2, 7)], [2, 3, 4, 5, 6])

    def test_by_deeds(self):
        for web in WEBS:
            if all(slow_kind(web, part[0]) != "narrow" for part in slow_parts(web)):
                for coats in (2, 3, 4) if web.size < 6 else (2, 3):
                    found = set(slow_classes(World(web, coats)).values())
                    self.assertEqual(class_count(web, coats), len(found), (web.links, coats))

    def test_many_parts(self):
        self.assertEqual(class_count(Web(40, ()), 6), 6 ** 40)
        self.assertEqual(class_count(side_by_side(*[grid(2, 2)] * 10), 4), 97 ** 10)
        self.assertEqual(class_count(renamed(side_by_side(grid(2, 2), ring(5), collar(3), line(1), ring(3)), 4), 3), 25 * 35 * 16 * 3 * 9)
        self.assertEqual(class_count(side_by_side(ring(14), full(14), ring(12)), 2), (2 + 13) * (0 + 2) * (2 + 11))

    def test_errors_in_order(self):
        both = renamed(side_by_side(line(2), ring(20), line(3)), 1)
        least = min(x for part in slow_parts(both) for x in part[:1] if slow_kind(both, x) == "narrow")
        for coats in (1, 0, -1, 7, 10 ** 30, -10 ** 30):
            self.refuses(BadCount, coats, class_count, both, coats)
            self.refuses(BadCount, coats, class_count, ring(40), coats)
        self.refuses(Narrow, least, class_count, both, 2)
        self.refuses(Narrow, 22, class_count, side_by_side(ring(20), line(1), line(1), line(3), line(2)), 6)
        self.refuses(TooLarge, 6 ** 6, class_count, side_by_side(ring(5), ring(6), ring(7)), 6)
        self.refuses(TooLarge, 2 ** 15, class_count, side_by_side(grid(2, 7), line(1), ring(15), full(10)), 2)
        self.refuses(TooLarge, 3 ** 10, class_count, side_by_side(full(10), ring(3)), 3)
        self.refuses(TooLarge, 2 ** 40, class_count, grid(5, 8), 2)


class ClassSize(Case):
    def test_examples(self):
        self.assertEqual(class_size(World(grid(2, 2), 3), (2, 1, 0, 0)), 8)
        world = World(collar(3), 3)
        sizes = [class_size(world, (0,) * 6), class_size(world, (0, 1, 0, 0, 0, 0)), class_size(world, (2, 0, 0, 0, 0, 0))]
        self.assertEqual(sizes, [171, 182, 182])
        self.assertEqual(class_size(world=world, floor=(1, 2, 0, 0, 0, 0)), 182)
        self.assertEqual(class_size(World(ring(5), 3), (0, 1, 1, 0, 2)), 51)

    def test_by_deeds(self):
        for web in WEBS:
            if len(slow_parts(web)) == 1 and slow_kind(web, 0) != "narrow":
                for world in (World(web, 2), World(web, 3), World(web, 3, table=((0, 2), (1, 2)))):
                    least = slow_classes(world)
                    many = Counter(least.values())
                    for floor in all_floors(world):
                        self.assertEqual(class_size(world, floor), many[least[floor]], (web.links, floor))

    def test_four_coats(self):
        for web in (grid(2, 3), full(4), ring(5), collar(3)):
            world, chance = World(web, 4, table=((0, 1), (1, 2), (2, 3))), Random(3)
            for _ in range(8):
                floor = random_floor(world, chance)
                self.assertEqual(class_size(world, floor), len(slow_far(world, floor)))

    def test_still_floors(self):
        self.assertEqual(class_size(World(grid(5, 8), 2), tuple((r + c) % 2 for r in range(5) for c in range(8))), 1)
        self.assertEqual(class_size(World(line(40), 6), tuple(x % 2 * 5 for x in range(40))), 1)
        self.assertEqual(class_size(World(ring(40), 3), (0, 1) * 20), 1)
        self.assertEqual(class_size(World(line(1), 6), (5,)), 1)
        self.assertEqual(class_size(World(crowded(17, 16), 6), (0,) + (1,) * 16), 1)

    def test_large_webs(self):
        self.assertEqual(class_size(World(ring(40), 6), (5,) * 40), 1085277825187995202031196)
        self.assertEqual(class_size(World(grid(4, 4), 2), (1,) * 16), comb(16, 8))
        self.assertEqual(class_size(World(full(16), 2), (1,) * 16), 2 ** 15)
        self.assertEqual(class_size(World(grid(2, 4), 3), (0,) * 8), lot_size(grid(2, 4), 3, (0, 0, 0)) - still_lot(grid(2, 4), 3, (0, 0, 0)))

    def test_errors_in_order(self):
        for web, many in ((Web(2, ()), 2), (side_by_side(ring(3), line(36), line(1)), 3)):
            self.refuses(BadSize, many, class_size, World(web, 2), (9,))
        self.refuses(BadSize, 3, class_size, World(line(4), 2), (9, 9, 9))
        self.refuses(BadSize, 0, class_size, World(grid(5, 8), 2), ())
        self.refuses(BadCoat, 2, class_size, World(line(4), 2), (0, 0, 2, -1))
        self.refuses(BadCoat, 39, class_size, World(grid(5, 8), 2), (0,) * 39 + (-1,))
        self.refuses(Narrow, 0, class_size, World(line(4), 2), (0, 0, 1, 0))
        self.refuses(Narrow, 0, class_size, World(line(40), 6), (0,) * 40)
        for coats in (2, 3, 6):
            self.refuses(TooLarge, 17, class_size, World(full(17), coats), (0,) * 17)
            self.refuses(TooLarge, 40, class_size, World(grid(5, 8), coats), (0,) * 40)
        self.refuses(TooLarge, 3 ** 10, class_size, World(grid(2, 5), 3), (0,) * 10)
        self.refuses(TooLarge, 6 ** 16, class_size, World(grid(4, 4), 6), (0,) * 16)
        self.refuses(TooLarge, 6 ** 6, class_size, World(grid(2, 3), 6), (0,) * 6)
        self.refuses(TooLarge, 4 ** 8, class_size, World(full(8), 4), (0,) * 8)
