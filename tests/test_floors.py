from itertools import product

from making import Case, crowded, grid, line, linked, made, ring, side_by_side, slow_part

from pairfloors.errors import BadCell, BadCoat, BadSize
from pairfloors.floors import checked_floor, stirs
from pairfloors.webs import Web
from pairfloors.worlds import World


class Floors(Case):
    def test_right_ones_are_returned(self):
        world = World(line(3), 2)
        for floor in product((0, 1), repeat=3):
            self.assertIs(checked_floor(world, floor), floor)
            self.assertIs(checked_floor(world=world, floor=floor), floor)
        self.assertEqual(checked_floor(World(line(1), 6), (5,)), (5,))
        self.assertEqual(checked_floor(World(crowded(), 6), (5,) * 40), (5,) * 40)

    def test_bad_sizes(self):
        world = World(line(3), 2)
        for many in (0, 1, 2, 4, 500):
            self.refuses(BadSize, many, checked_floor, world, (0,) * many)
            self.refuses(BadSize, many, checked_floor, world, (9,) * many)
            self.refuses(BadSize, many, stirs, world, (9,) * many, 99)

    def test_bad_coats(self):
        for coats in range(2, 7):
            world = World(line(3), coats)
            for bad in (-1, coats, 10 ** 30, -10 ** 30):
                for x in range(3):
                    floor = tuple(bad if y == x else coats - 1 for y in range(3))
                    self.refuses(BadCoat, x, checked_floor, world, floor)
                    self.refuses(BadCoat, x, stirs, world, floor, 0)
                    self.refuses(BadCoat, x, stirs, world, floor, 99)
                self.refuses(BadCoat, 1, checked_floor, world, (0, bad, bad))

    def test_coats_that_are_no_numbers(self):
        for bad in (None, "a", (), (0,)):
            self.refuses(BadCoat, 1, checked_floor, World(line(3), 2), (0, bad, 9))


class Stirs(Case):
    def test_by_the_document(self):
        webs = [line(1), line(4), ring(5), side_by_side(line(2), ring(3)), made(5, [(0, 3), (1, 4)]), Web(3, ())]
        for web in webs:
            for floor in product((0, 1, 2), repeat=web.size):
                for x in range(web.size):
                    part = slow_part(web, x)
                    like = [(a, b) for a in part for b in part if linked(web, a, b) and floor[a] == floor[b]]
                    self.assertIs(stirs(World(web, 3), floor, x), like != [])

    def test_the_table_does_not_matter(self):
        world = World(line(2), 3, table=((0, 1), (1, 2)))
        self.is_true(stirs(world=world, floor=(2, 2), x=1))
        self.is_false(stirs(world, (0, 2), 1))

    def test_a_dot_is_still(self):
        self.is_false(stirs(World(line(1), 2), (0,), 0))
        self.is_false(stirs(World(side_by_side(line(2), line(1)), 2), (0, 0, 0), 2))

    def test_at_the_limits(self):
        world = World(crowded(), 6)
        self.is_true(stirs(world, (0,) * 40, 39))
        self.is_false(stirs(World(line(40), 2), (0, 1) * 20, 39))
        self.is_true(stirs(World(line(40), 2), (0, 1) * 19 + (0, 0), 0))

    def test_no_cell(self):
        for bad in (-1, 4, 10 ** 30, -10 ** 30):
            self.refuses(BadCell, bad, stirs, World(grid(2, 2), 2), (0,) * 4, bad)
