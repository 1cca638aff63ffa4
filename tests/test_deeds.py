from itertools import product

from making import Case, all_tables, crowded, grid, line, ring, side_by_side, slow_after, slow_deeds, slow_let

from pairfloors.deeds import after, deeds
from pairfloors.errors import BadCoat, BadDeed, BadSize
from pairfloors.webs import Web
from pairfloors.worlds import World


def some_worlds():
    webs = [line(1), line(2), line(3), ring(3), grid(2, 2), side_by_side(line(2), line(2)), Web(4, ((0, 3), (1, 3)))]
    return [World(web, coats, table=table) for web in webs for coats in (2, 3) for table in all_tables(coats)]


class Deeds(Case):
    def test_by_the_document(self):
        for world in some_worlds():
            for floor in product(range(world.coats), repeat=world.web.size):
                self.assertEqual(deeds(world, floor), slow_deeds(world, floor))

    def test_examples(self):
        world = World(grid(2, 2), 3)
        self.assertEqual(deeds(world, (2, 1, 0, 0)), ((2, 3, 1), (2, 3, 2)))
        self.assertEqual(deeds(world=World(grid(2, 2), 2), floor=(0, 0, 1, 1)), ((0, 1, 1), (2, 3, 0)))
        self.assertEqual(deeds(World(line(2), 3, table=((0, 1), (1, 2))), (1, 1)), ((0, 1, 0), (0, 1, 2)))
        self.assertEqual(deeds(World(line(2), 3, table=((0, 1), (1, 2))), (2, 2)), ((0, 1, 1),))
        self.assertEqual(deeds(world, (0, 1, 1, 0)), ())
        self.assertEqual(deeds(World(line(1), 6), (3,)), ())

    def test_at_the_limits(self):
        found = deeds(World(crowded(), 6), (3,) * 40)
        self.assertEqual(len(found), 800)
        self.assertEqual(found, tuple(sorted(found)))
        self.assertEqual(found[:6], ((0, 1, 0), (0, 1, 1), (0, 1, 2), (0, 1, 4), (0, 1, 5), (0, 2, 0)))

    def test_no_floor(self):
        world = World(grid(2, 2), 2)
        self.refuses(BadSize, 3, deeds, world, (9, 9, 9))
        self.refuses(BadCoat, 1, deeds, world, (0, 2, -1, 0))


class After(Case):
    def test_by_the_document(self):
        for world in some_worlds():
            size = world.web.size
            for floor in list(product(range(world.coats), repeat=size))[::3]:
                for deed in product(range(-1, size + 1), range(-1, size + 1), range(-1, world.coats + 1)):
                    if slow_let(world, floor, deed):
                        self.assertEqual(after(world, floor, deed), slow_after(floor, deed))
                    else:
                        self.refuses(BadDeed, deed, after, world, floor, deed)

    def test_examples(self):
        self.assertEqual(after(World(grid(2, 2), 2), (0, 0, 0, 1), (0, 1, 1)), (1, 1, 0, 1))
        world = World(grid(2, 3), 3)
        self.assertEqual(after(world=world, floor=(0, 0, 1, 1, 2, 0), deed=(0, 1, 1)), (1, 1, 1, 1, 2, 0))

    def test_bad_deeds(self):
        world = World(grid(2, 2), 3, table=((0, 1), (1, 2)))
        floor = (0, 0, 0, 1)
        for bad in ((1, 0, 1), (0, 0, 1), (0, 3, 1), (1, 3, 0), (0, 1, 0), (0, 1, 2), (0, 1, 3), (0, 1, -1), (-1, 0, 1),
                    (-2, -1, 1), (0, 4, 1), (3, 4, 0), (4, 5, 0), (0, -4, 1), (0, 1, 10 ** 30), (10 ** 30, 0, 1),
                    (0, 10 ** 30, 1), (-10 ** 30, 1, 1), (2, 0, 1)):
            self.refuses(BadDeed, bad, after, world, floor, bad)
        self.assertEqual(after(world, floor, (0, 2, 1)), (1, 0, 1, 1))

    def test_the_coat_that_the_cells_wear_is_no_deed(self):
        for coat in range(6):
            self.refuses(BadDeed, (0, 1, coat), after, World(line(2), 6), (coat, coat), (0, 1, coat))

    def test_order_of_errors(self):
        world = World(grid(2, 2), 2)
        self.refuses(BadSize, 5, after, world, (9,) * 5, (7, 7, 7))
        self.refuses(BadCoat, 2, after, world, (0, 0, 2, 2), (7, 7, 7))
        self.refuses(BadDeed, (7, 7, 7), after, world, (0, 0, 1, 1), (7, 7, 7))
