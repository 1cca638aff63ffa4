from random import Random

from making import Case, all_floors, crowded, full, grid, line, random_floor, side_by_side

from pairfloors.errors import BadCoat, BadNumber, BadSize
from pairfloors.floornumbers import floor_at, floor_number
from pairfloors.webs import Web
from pairfloors.worlds import World


class FloorNumbers(Case):
    def test_examples(self):
        world = World(grid(2, 2), 3)
        self.assertEqual(floor_number(world, (2, 1, 0, 0)), 63)
        self.assertEqual(floor_number(world=world, floor=(0, 0, 1, 2)), 5)
        self.assertEqual(floor_at(world, 63), (2, 1, 0, 0))
        self.assertEqual(floor_at(world=world, n=5), (0, 0, 1, 2))

    def test_all_floors(self):
        for web, coats in ((line(1), 2), (line(1), 6), (line(3), 3), (grid(2, 2), 4), (Web(5, ()), 2), (side_by_side(full(3), line(2)), 3)):
            world = World(web, coats)
            floors = sorted(all_floors(world))
            self.assertEqual([floor_number(world, floor) for floor in floors], list(range(len(floors))))
            self.assertEqual([floor_at(world, n) for n in range(len(floors))], floors)

    def test_large_worlds(self):
        chance = Random(5)
        for web, coats in ((crowded(), 6), (Web(40, ()), 2), (line(40), 5)):
            world = World(web, coats, table=tuple((0, c) for c in range(1, coats)))
            many = coats ** 40
            self.assertEqual(floor_at(world, 0), (0,) * 40)
            self.assertEqual(floor_at(world, many - 1), (coats - 1,) * 40)
            self.assertEqual(floor_number(world, (coats - 1,) + (0,) * 39), (coats - 1) * coats ** 39)
            self.assertEqual(floor_number(world, (0,) * 39 + (1,)), 1)
            for _ in range(20):
                floor = random_floor(world, chance)
                self.assertEqual(floor_at(world, floor_number(world, floor)), floor)
                n = chance.randrange(many)
                self.assertEqual(floor_number(world, floor_at(world, n)), n)
            self.refuses(BadNumber, many, floor_at, world, many)

    def test_errors_in_order(self):
        world = World(grid(2, 2), 3)
        self.refuses(BadSize, 3, floor_number, world, (9, 9, 9))
        self.refuses(BadSize, 0, floor_number, world, ())
        self.refuses(BadSize, 5, floor_number, world, (0,) * 5)
        self.refuses(BadCoat, 1, floor_number, world, (0, 3, -1, 0))
        self.refuses(BadCoat, 3, floor_number, world, (0, 0, 0, -1))
        self.refuses(BadCoat, 0, floor_number, world, (10 ** 30, 0, 0, 0))
        for n in (-1, 81, 10 ** 30, -10 ** 30):
            self.refuses(BadNumber, n, floor_at, world, n)
