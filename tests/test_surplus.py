from random import Random

from making import (
    Case, corners, crowded, far_links, full, grid, line, linked, made, random_floor, random_run, ring, side_by_side,
    slow_odd, slow_part, slow_sides, slow_surplus, some_webs, stout_webs,
)

from pairfloors.errors import BadCell, BadCoat, BadSize, OneSided
from pairfloors.floors import stirs
from pairfloors.joined import with_corner
from pairfloors.reshaped import with_link
from pairfloors.surplus import odd_coats, surplus
from pairfloors.worlds import World


def toggled(coats, coat):
    return tuple(sorted(set(coats) ^ {coat}))


class Surplus(Case):
    def test_examples(self):
        world = World(grid(2, 3), 3)
        self.assertEqual(surplus(world, (0, 0, 1, 1, 2, 0), 0), (-1, 0, 1))
        self.assertEqual(surplus(world=world, floor=(0, 0, 1, 1, 2, 0), x=5), (-1, 0, 1))
        self.assertEqual(odd_coats(World(full(4), 3), (0, 1, 1, 2), 0), (0, 2))
        self.assertEqual(odd_coats(world=World(full(4), 3), floor=(0, 1, 1, 2), x=3), (0, 2))

    def test_by_the_document(self):
        chance = Random(47)
        for web in some_webs():
            shades = slow_sides(web)
            for coats in (2, 3, 6):
                world = World(web, coats)
                floor = random_floor(world, chance)
                for x in range(web.size):
                    part = slow_part(web, x)
                    self.assertEqual(odd_coats(world, floor, x), slow_odd(world, floor, part))
                    if shades[x] < 0:
                        self.refuses(OneSided, part[0], surplus, world, floor, x)
                    else:
                        self.assertEqual(surplus(world, floor, x), slow_surplus(world, floor, part))

    def test_the_sum(self):
        world = World(made(6, [(0, x) for x in range(1, 6)]), 4)
        self.assertEqual(sum(surplus(world, (3, 1, 2, 0, 0, 1), 2)), 1 - 5)

    def test_no_deed_changes_them(self):
        chance = Random(53)
        for web in (grid(2, 3), line(4), ring(6), full(4), ring(5), side_by_side(ring(3), grid(2, 2))):
            world = World(web, 3, table=((0, 1), (1, 2)))
            shades = slow_sides(web)
            for _ in range(5):
                _, trail = random_run(world, random_floor(world, chance), 20, chance)
                for x in range(web.size):
                    self.assertEqual(len({odd_coats(world, floor, x) for floor in trail}), 1)
                    if shades[x] >= 0:
                        self.assertEqual(len({surplus(world, floor, x) for floor in trail}), 1)

    def test_dots_and_parts(self):
        world = World(side_by_side(line(1), line(2), ring(3)), 2)
        self.assertEqual(surplus(world, (1, 0, 1, 0, 0, 0), 0), (0, 1))
        self.assertEqual(surplus(world, (1, 0, 1, 0, 0, 0), 2), (1, -1))
        self.assertEqual(odd_coats(world, (1, 0, 1, 0, 0, 0), 0), (1,))
        self.assertEqual(odd_coats(world, (1, 1, 1, 0, 0, 0), 1), ())
        self.assertEqual(odd_coats(world, (1, 1, 1, 0, 0, 0), 5), (0,))

    def test_errors_in_order(self):
        world = World(side_by_side(line(2), full(3)), 2)
        for call in (surplus, odd_coats):
            self.refuses(BadSize, 2, call, world, (0, 9), 99)
            self.refuses(BadSize, 6, call, world, (9,) * 6, 2)
            self.refuses(BadCoat, 1, call, world, (0, 2, -1, 0, 0), 99)
            self.refuses(BadCoat, 4, call, world, (0, 1, 1, 0, -1), 2)
            for x in (-1, 5, 10 ** 30, -10 ** 30):
                self.refuses(BadCell, x, call, world, (0,) * 5, x)
        for x in (2, 3, 4):
            self.refuses(OneSided, 2, surplus, world, (0,) * 5, x)

    def test_at_the_limits(self):
        world = World(crowded(), 6)
        self.assertEqual(odd_coats(world, (5,) * 39 + (1,), 0), (1, 5))
        self.refuses(OneSided, 0, surplus, world, (0,) * 40, 39)
        self.assertEqual(surplus(World(grid(5, 8), 6), (5,) * 40, 39), (0,) * 6)


class OneMore(Case):
    def test_one_more_cell(self):
        chance = Random(59)
        for web in stout_webs():
            if web.size < 11 and len(web.links) < 20:
                world, shades = World(web, 4), slow_sides(web)
                x, z = chance.choice(corners(web))
                wider = World(with_corner(web, x, z), 4)
                floor, coat = random_floor(world, chance), chance.randrange(4)
                odd = odd_coats(world, floor, 0)
                self.assertEqual(odd_coats(wider, floor + (coat,), 0), toggled(odd, coat))
                if shades[0] >= 0:
                    by = [0] * 4
                    by[coat] = -1 if shades[x] == 0 else 1
                    told = tuple(old + more for old, more in zip(surplus(world, floor, 0), by))
                    self.assertEqual(surplus(wider, floor + (coat,), 0), told)

    def test_one_more_link(self):
        chance = Random(61)
        for web in stout_webs():
            if far_links(web):
                a, b = chance.choice(far_links(web))
                world, wider = World(web, 3), World(with_link(web, a, b), 3)
                for _ in range(9):
                    floor = random_floor(world, chance)
                    self.assertEqual(odd_coats(wider, floor, 0), odd_coats(world, floor, 0))
                    if slow_sides(web)[0] >= 0:
                        self.assertEqual(surplus(wider, floor, 0), surplus(world, floor, 0))
                    if not any(linked(web, x, y) and floor[x] == floor[y] for x in range(web.size) for y in range(web.size)):
                        self.assertIs(stirs(wider, floor, 0), floor[a] == floor[b])
