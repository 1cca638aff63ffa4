from random import Random

from making import (
    Case, all_floors, crowded, full, grid, line, made, random_floor, ring, side_by_side, slow_classes, slow_fits, slow_loaded,
    slow_sides, two_rows, two_sided_webs,
)

from pairfloors.errors import BadCell, BadCoat, BadSize, OneSided
from pairfloors.loaded import fits, floor_of_load, loaded
from pairfloors.sides import sides
from pairfloors.webs import Web
from pairfloors.worlds import World

ONE_SIDED = ((ring(3), 0), (side_by_side(line(2), ring(4), full(4), ring(5)), 6), (made(5, [(0, 4), (1, 2), (2, 3), (1, 3)]), 1))


class Loaded(Case):
    def test_example(self):
        web = grid(2, 3)
        self.assertEqual(loaded(web, (0,) * 6), (1, 3, 5))
        self.assertEqual(loaded(web=web, floor=(1,) * 6), (0, 2, 4))
        self.assertEqual(floor_of_load(web=web, cells=(1, 3, 5)), (0,) * 6)
        self.assertEqual(floor_of_load(web, (0, 2, 4)), (1,) * 6)

    def test_all_floors(self):
        for web in two_sided_webs():
            for floor in all_floors(World(web, 2)):
                cells = slow_loaded(web, floor)
                self.assertEqual(loaded(web, floor), cells)
                self.assertEqual(floor_of_load(web, cells), floor)
                for a, b in web.links:
                    self.assertEqual(floor[a] == floor[b], (a in cells) != (b in cells))

    def test_nothing_loaded(self):
        for web in (line(1), Web(40, ()), line(40), grid(5, 8), side_by_side(line(3), ring(6))):
            shades = sides(web)
            self.assertEqual(loaded(web, shades), ())
            self.assertEqual(floor_of_load(web, ()), shades)
            every = tuple(range(web.size))
            self.assertEqual(loaded(web, tuple(1 - side for side in shades)), every)
            self.assertEqual(floor_of_load(web, every), tuple(1 - side for side in shades))

    def test_errors_in_order(self):
        for web, least in ONE_SIDED:
            self.refuses(OneSided, least, loaded, web, (9,))
            self.refuses(OneSided, least, loaded, web, (0,) * web.size)
            self.refuses(OneSided, least, floor_of_load, web, (99, 0))
            self.refuses(OneSided, least, floor_of_load, web, ())
        web = grid(2, 3)
        self.refuses(BadSize, 5, loaded, web, (9,) * 5)
        self.refuses(BadSize, 0, loaded, web, ())
        self.refuses(BadCoat, 2, loaded, web, (0, 1, 2, -1, 0, 0))
        self.refuses(BadCoat, 5, loaded, web, (0, 1, 1, 1, 0, -1))
        for cells, bad in (((6,), 6), ((-1,), -1), ((0, 6, -1), 6), ((1, 0, 9), 0), ((2, 2), 2), ((3, 1), 1), ((1, 10 ** 30), 10 ** 30),
                           ((-10 ** 30, 0), -10 ** 30), ((0, 5, 5, 7), 5), (tuple(range(7)), 6)):
            self.refuses(BadCell, bad, floor_of_load, web, cells)


class Fits(Case):
    def test_by_deeds(self):
        for web in two_sided_webs():
            least = slow_classes(World(web, 2))
            floors, chance = all_floors(World(web, 2)), Random(web.size)
            for one, two in [(chance.choice(floors), chance.choice(floors)) for _ in range(60)]:
                self.assertIs(fits(web, one, two), slow_fits(web, one, two))
                self.assertIs(fits(web, one, two), least[one] == least[two])
            self.is_true(fits(web=web, one=floors[0], two=floors[0]))

    def test_several_parts(self):
        web = side_by_side(line(2), line(2), line(1))
        one = floor_of_load(web, (0, 4))
        self.is_true(fits(web, one, floor_of_load(web, (1, 4))))
        self.is_false(fits(web, one, floor_of_load(web, (2, 4))))
        self.is_false(fits(web, one, floor_of_load(web, (1,))))
        self.is_false(fits(web, one, floor_of_load(web, (1, 2, 3))))

    def test_large_webs(self):
        for web in (line(40), grid(5, 8), ring(40), two_rows(4, 36), Web(40, ())):
            shades, chance = sides(web), Random(31)
            one = random_floor(World(web, 2), chance)
            self.is_true(fits(web, one, one))
            self.assertIs(fits(web, shades, tuple(1 - side for side in shades)), False)

    def test_errors_in_order(self):
        for web, least in ONE_SIDED:
            self.refuses(OneSided, least, fits, web, (9,), (9,))
        web, good = grid(2, 3), (0,) * 6
        self.refuses(BadSize, 5, fits, web, (9,) * 5, (9,))
        self.refuses(BadCoat, 4, fits, web, (0, 0, 0, 0, 2, -1), (9,))
        self.refuses(BadSize, 1, fits, web, good, (9,))
        self.refuses(BadCoat, 0, fits, web, good, (-1, 0, 0, 0, 0, 9))
        self.refuses(OneSided, 0, fits, crowded(), (9,), (9,))
