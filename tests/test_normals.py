from random import Random

from making import (
    Case, all_floors, collar, crowded, full, grid, line, made, near, random_floor, renamed, ring, side_by_side, slow_classes,
    slow_kind, slow_odd, slow_parts, slow_ring_row, slow_core, slow_sides, slow_still, slow_surplus, some_webs, stout_webs,
)

from pairfloors.answers import answer
from pairfloors.errors import BadCoat, BadSize, Narrow
from pairfloors.normals import normal
from pairfloors.webs import Web
from pairfloors.worlds import World


def slow_normal(world, floor, chance):
    """The normal floor by the document, or the least cell of the first narrow part that is not still."""
    cells, shades = list(floor), slow_sides(world.web)
    for part in slow_parts(world.web):
        if slow_still(world, floor, part):
            continue
        name = slow_kind(world.web, part[0])
        if name == "narrow":
            return part[0]
        home = (part[-1], max(near(world.web, part[-1])))
        if name == "ring":
            row = slow_ring_row(world.web, part)
            core = slow_core(tuple(floor[x] for x in row), chance)
            for x, coat in zip(row, core + (0,) * len(row)):
                cells[x] = coat
            continue
        piles = {-1: [coat for coat in slow_odd(world, floor, part) if coat > 0], 0: [], 1: []}
        if shades[part[0]] >= 0:
            for coat, many in enumerate(slow_surplus(world, floor, part)):
                piles[0 if many > 0 else 1] += [coat] * abs(many)
        for x in part:
            pile = piles[shades[x]]
            cells[x] = 0 if x in home or not pile else pile.pop(0)
        assert not any(piles[side] for side in ((-1,) if shades[part[0]] < 0 else (0, 1)))
    return tuple(cells)


class Normals(Case):
    def test_examples(self):
        self.assertEqual(normal(World(grid(2, 3), 3), (0, 0, 1, 1, 2, 0)), (2, 0, 0, 0, 0, 0))
        self.assertEqual(normal(world=World(full(4), 3), floor=(0, 1, 1, 2)), (2, 0, 0, 0))
        self.assertEqual(normal(World(ring(5), 3), (0, 1, 1, 0, 2)), (2, 0, 0, 0, 0))

    def test_by_the_document(self):
        chance = Random(127)
        webs = some_webs()[::2] + [web for web in stout_webs() if web.size < 9]
        for web in webs:
            for coats in (2, 3, 6):
                world = World(web, coats)
                for _ in range(3):
                    self.check(world, random_floor(world, chance), chance)

    def check(self, world, floor, chance):
        expected = slow_normal(world, floor, chance)
        if isinstance(expected, int):
            self.refuses(Narrow, expected, normal, world, floor)
            return
        self.assertEqual(normal(world, floor), expected)
        self.assertEqual(answer(world, expected), answer(world, floor))
        self.assertEqual(normal(world, expected), expected)

    def test_it_is_the_same_as_the_floor(self):
        for web, coats in ((grid(2, 2), 3), (full(4), 3), (ring(5), 3), (ring(6), 2), (grid(2, 3), 2), (ring(3), 4), (collar(3), 2),
                           (renamed(ring(6), 4), 3), (side_by_side(ring(3), grid(2, 2)), 2)):
            world = World(web, coats)
            classes = slow_classes(world)
            normals = {}
            for floor in all_floors(world):
                told = normal(world, floor)
                self.assertEqual(classes[told], classes[floor])
                normals.setdefault(classes[floor], set()).add(told)
            self.assertEqual({len(held) for held in normals.values()}, {1})

    def test_the_surplus_of_coat_zero(self):
        # Above 0 it is laid on light cells before the others, below 0 on dark ones.
        world = World(grid(3, 3), 3)
        self.assertEqual(answer(world, (0, 1, 2, 1, 0, 1, 2, 1, 1)), (("sides", (2, -3, 2)),))
        self.assertEqual(normal(world, (0, 1, 2, 1, 0, 1, 2, 1, 1)), (0, 1, 0, 1, 2, 1, 2, 0, 0))
        self.assertEqual(answer(world, (1, 0, 1, 0, 1, 0, 2, 2, 2)), (("sides", (-3, 3, 1)),))
        self.assertEqual(normal(world, (1, 0, 1, 0, 1, 0, 2, 2, 2)), (1, 0, 1, 0, 1, 0, 2, 0, 0))
        self.assertEqual(answer(World(grid(2, 3), 3), (1, 0, 1, 0, 2, 2)), (("sides", (-2, 2, 0)),))
        self.assertEqual(normal(World(grid(2, 3), 3), (1, 0, 1, 0, 2, 2)), (1, 0, 1, 0, 0, 0))

    def test_no_surplus_at_all(self):
        for web in (grid(2, 2), grid(3, 4), ring(4)):
            world = World(web, 3)
            floor = tuple(1 if x in web.links[0] else 2 if x in web.links[-1] else 0 for x in range(web.size))
            self.assertEqual(normal(world, floor), (0,) * web.size)

    def test_coat_zero_is_not_laid_where_there_are_odd_coats(self):
        world = World(full(5), 4)
        self.assertEqual(answer(world, (0, 2, 2, 3, 1)), (("odd", (0, 1, 3)),))
        self.assertEqual(normal(world, (0, 2, 2, 3, 1)), (1, 3, 0, 0, 0))

    def test_homes(self):
        # The greatest cell is 5; near it are 0 and 2, so that home is 5 and 2.
        web = Web(6, ((0, 1), (0, 5), (1, 2), (1, 4), (2, 3), (2, 5), (3, 4)))
        self.assertEqual(slow_sides(web), (0, 1, 0, 1, 0, 1))
        self.assertEqual(normal(World(web, 2), (0, 0, 1, 1, 1, 1)), (0,) * 6)
        self.assertEqual(normal(World(web, 3), (1, 2, 0, 0, 0, 0)), (1, 2, 0, 0, 0, 0))
        self.assertEqual(normal(World(web, 3), (0, 0, 1, 0, 0, 2)), (1, 2, 0, 0, 0, 0))

    def test_still_parts_stay(self):
        world = World(side_by_side(line(2), ring(5), grid(2, 2), line(1)), 3)
        floor = (2, 1) + (0, 1, 2, 0, 1) + (2, 2, 2, 1) + (2,)
        self.assertEqual(normal(world, floor), (2, 1) + (0, 1, 2, 0, 1) + (1, 2, 0, 0) + (2,))
        floor = (0, 1) + (0, 0, 2, 0, 2) + (0, 1, 1, 0) + (1,)
        self.assertEqual(normal(world, floor), (0, 1) + (0, 0, 0, 0, 0) + (0, 1, 1, 0) + (1,))

    def test_rings_by_their_rows(self):
        web = made(5, [(0, 3), (3, 1), (1, 4), (4, 2), (2, 0)])
        # The ring row is 0, 2, 4, 1, 3.
        self.assertEqual(normal(World(web, 3), (1, 0, 2, 0, 0)), (0, 0, 1, 0, 2))
        self.assertEqual(normal(World(web, 3), (2, 0, 1, 0, 0)), (0, 0, 2, 0, 1))

    def test_errors_in_order(self):
        world = World(side_by_side(grid(2, 2), line(2), line(3)), 2)
        self.refuses(BadSize, 2, normal, world, (9, 9))
        self.refuses(BadCoat, 1, normal, world, (0, 2) + (0,) * 6 + (9,))
        self.refuses(Narrow, 4, normal, world, (0,) * 9)
        self.refuses(Narrow, 6, normal, world, (0,) * 5 + (1,) + (0,) * 3)

    def test_at_the_limits(self):
        self.assertEqual(normal(World(crowded(), 6), (5,) * 40), (0,) * 40)
        self.assertEqual(normal(World(ring(40), 6), (5, 3, 4, 4) + (0, 1) * 18), (0, 1) * 17 + (0, 1, 5, 3) + (0, 0))
        self.assertEqual(normal(World(Web(40, ()), 6), (5,) * 40), (5,) * 40)
