from itertools import combinations
from random import Random

from making import (
    ODD_THINGS, Case, all_floors, all_tables, crowded, full, grid, line, made, ring, side_by_side, slow_after,
    slow_deeds, slow_part, slow_sides, some_webs,
)

from pairfloors.errors import BadCell, BadCoat
from pairfloors.keepers import coat_keeper, is_keeper
from pairfloors.weighings import weigh
from pairfloors.webs import Web
from pairfloors.worlds import World

KEEPER = ((0, 1), (0, -1), (0, -1), (0, 1))
PLAIN = ((0, 1), (0, 1), (0, 1), (0, 1))


def no_deed_changes(world, weighing, modulus):
    for floor in all_floors(world):
        weight = weigh(world, floor, weighing, modulus)
        for deed in slow_deeds(world, floor):
            if weigh(world, slow_after(floor, deed), weighing, modulus) != weight:
                return False
    return True


class Keepers(Case):
    def test_example(self):
        world = World(grid(2, 2), 2)
        for modulus in (0, 2, 3, 10 ** 6):
            self.is_true(is_keeper(world, KEEPER, modulus))
        self.is_true(is_keeper(world=world, weighing=PLAIN, modulus=2))
        for modulus in (0, 3, 4, 6, 10 ** 6):
            self.is_false(is_keeper(world, PLAIN, modulus))

    def test_by_deeds(self):
        chance = Random(31)
        webs = [line(1), line(2), line(3), ring(3), ring(4), side_by_side(line(2), line(1)), made(4, [(0, 1), (1, 2), (0, 2)])]
        told = {True: 0, False: 0}
        for web in webs:
            for coats, table in [(2, None)] + [(3, table) for table in all_tables(3)]:
                world = World(web, coats, table=table)
                for modulus in (0, 2, 3, 4):
                    weighing = tuple(tuple(chance.randint(-1, 1) for _ in range(coats)) for _ in range(web.size))
                    signs = [-1 if side == 1 else 1 for side in slow_sides(web)]
                    bends = [0] + [chance.choice((2, 4, -2)) for _ in range(coats - 1)]
                    near = tuple(tuple(x + signs[x] * bend for bend in bends) for x in range(web.size))
                    for tried in (weighing, near):
                        kept = no_deed_changes(world, tried, modulus)
                        self.assertIs(is_keeper(world, tried, modulus), kept, (web.links, tried, modulus))
                        told[kept] += 1
        self.assertGreater(min(told.values()), 50)

    def test_the_table_does_not_matter(self):
        for table in all_tables(4):
            world = World(grid(2, 3), 4, table=table)
            for x in range(6):
                self.is_true(is_keeper(world, coat_keeper(world, x, 3), 0))
            wrong = ((0, 0, 0, 1),) + ((0, 0, 0, 0),) * 5
            self.is_false(is_keeper(world, wrong, 0))
            self.is_false(is_keeper(world, wrong, 2))

    def test_webs_without_links(self):
        chance = Random(37)
        for size in (1, 3, 40):
            world = World(Web(size, ()), 3)
            weighing = tuple(tuple(chance.randint(-10 ** 40, 10 ** 40) for _ in range(3)) for _ in range(size))
            for modulus in (0, 2, 10 ** 6):
                self.is_true(is_keeper(world, weighing, modulus))

    def test_numbers_of_any_size(self):
        world, huge = World(line(2), 2), 10 ** 300
        self.is_true(is_keeper(world, ((huge, -huge), (-huge, huge)), 0))
        self.is_false(is_keeper(world, ((huge, -huge), (-huge, huge + 1)), 0))
        self.is_true(is_keeper(world, ((huge, -huge), (-huge, huge + 2)), 2))

    def test_moduli(self):
        world, weighing = World(line(2), 2), ((0, 1), (0, -1))
        for modulus in (0, 2, 10 ** 6):
            self.is_true(is_keeper(world, weighing, modulus))
        for modulus in (1, -1, -2, 10 ** 6 + 1, 10 ** 30):
            self.is_false(is_keeper(world, weighing, modulus))

    def test_other_forms_of_weighings(self):
        world = World(line(2), 2)
        for weighing in ((), ((0, 0),), ((0, 0),) * 3, ((0, 0), (0,)), ((0, 0), (0, 0, 0)), ((), ()), (0, 0), ("00", "00"),
                         ((0, 0), "00"), ((0, 0), (0, "0")), ((0, None), (0, 0)), (((0,), 0), (0, 0)), "ab"):
            self.is_false(is_keeper(world, weighing, 0))

    def test_odd_things(self):
        for world in (World(line(2), 2), World(line(1), 6), World(crowded(), 2), World(Web(40, ()), 2)):
            weighing = ((0,) * world.coats,) * world.web.size
            self.is_true(is_keeper(world, weighing, 0))
            for thing in ODD_THINGS:
                self.is_false(is_keeper(world, thing, 0))
                self.is_false(is_keeper(world, weighing[1:] + (thing,), 0))
                self.is_false(is_keeper(world, weighing, thing) and thing != 40)
                self.is_false(is_keeper(world, thing, thing))

    def test_at_the_limits(self):
        world = World(crowded(), 6)
        self.is_true(is_keeper(world, coat_keeper(world, 39, 5), 2))
        self.is_false(is_keeper(world, coat_keeper(world, 39, 5), 0))


class CoatKeepers(Case):
    def test_example(self):
        self.assertEqual(coat_keeper(World(grid(2, 2), 2), 0, 1), KEEPER)
        self.assertEqual(coat_keeper(world=World(grid(2, 2), 2), x=1, coat=1), KEEPER)
        self.assertEqual(coat_keeper(World(full(4), 2), 2, 1), PLAIN)

    def test_each_part_by_itself(self):
        world = World(side_by_side(line(2), ring(3), line(1)), 3)
        none, one, less = (0, 0, 0), (0, 1, 0), (0, -1, 0)
        for x in (0, 1):
            self.assertEqual(coat_keeper(world, x, 1), (one, less, none, none, none, none))
        for x in (2, 4):
            self.assertEqual(coat_keeper(world, x, 1), (none, none, one, one, one, none))
        self.assertEqual(coat_keeper(world, 5, 0), (none,) * 5 + ((1, 0, 0),))

    def test_by_the_document(self):
        for web in some_webs()[::3]:
            shades, world = slow_sides(web), World(web, 3)
            for x, coat in [(x, coat) for x in range(web.size) for coat in range(3)]:
                part = slow_part(web, x)
                expected = tuple(
                    tuple((-1 if shades[y] == 1 else 1) if y in part and c == coat else 0 for c in range(3))
                    for y in range(web.size)
                )
                self.assertEqual(coat_keeper(world, x, coat), expected)
                self.is_true(is_keeper(world, expected, 2))
                links = [link for link in web.links if link[0] in part]
                for modulus in (0, 3, 4, 10 ** 6):
                    self.assertIs(is_keeper(world, expected, modulus), shades[x] >= 0 or not links)

    def test_tuples_all_through(self):
        told = coat_keeper(World(grid(2, 2), 3), 0, 0)
        self.assertEqual({told.__class__} | {row.__class__ for row in told}, {tuple})

    def test_errors_in_order(self):
        for web in (line(1), grid(2, 2)):
            world = World(web, 3)
            for x in (-1, web.size, 10 ** 30, -10 ** 30):
                for coat in (0, -1, 3):
                    self.refuses(BadCell, x, coat_keeper, world, x, coat)
            for coat in (-1, 3, 10 ** 30, -10 ** 30):
                self.refuses(BadCoat, coat, coat_keeper, world, 0, coat)

    def test_no_deed_changes_what_they_weigh(self):
        for web, modulus in ((grid(2, 2), 0), (line(3), 0), (full(3), 2), (side_by_side(line(2), line(2)), 7)):
            world = World(web, 2)
            for x, coat in combinations(range(web.size), 2):
                self.assertTrue(no_deed_changes(world, coat_keeper(world, x, coat % 2), modulus))
