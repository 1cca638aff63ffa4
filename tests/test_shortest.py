from random import Random

from making import (
    Case, all_floors, full, grid, let_deeds, line, made, random_floor, renamed, ring, side_by_side, slow_after, slow_far, two_rows,
)

from pairfloors.errors import BadCoat, BadSize, TooLarge
from pairfloors.floornumbers import floor_number
from pairfloors.runs import run_right
from pairfloors.shortest import far, shortest
from pairfloors.webs import Web
from pairfloors.worlds import World

TAILED = made(5, list(ring(3).links) + [(0, 3), (3, 4)])
CHAIN, STAR = ((0, 1), (1, 2)), ((0, 1), (0, 2))
WORLDS = (
    World(line(1), 2), World(line(2), 3), World(line(4), 3), World(line(6), 2), World(grid(2, 2), 3), World(grid(2, 2), 3, table=CHAIN),
    World(full(4), 2), World(ring(5), 2), World(ring(3), 3, table=STAR), World(TAILED, 2), World(Web(3, ()), 2), World(ring(6), 2),
    World(side_by_side(line(2), line(2)), 3, table=CHAIN), World(renamed(two_rows(2, 3), 4), 2), World(renamed(line(4), 5), 3, table=STAR),
)


def least_run(world, one, two):
    """The least, as a tuple, of all shortest runs, by listing all runs of each length; None if there is no run."""
    away = slow_far(world, one)
    if two not in away:
        return None
    runs = [((), one)]
    for _ in range(away[two]):
        runs = [(run + (deed,), slow_after(here, deed)) for run, here in runs for deed in let_deeds(world, here)]
    return min(run for run, here in runs if here == two)


class Far(Case):
    def test_by_deeds(self):
        for world in WORLDS:
            floors = sorted(all_floors(world))
            for floor in floors:
                away = slow_far(world, floor)
                self.assertEqual(far(world, floor), tuple(away.get(other, -1) for other in floors))

    def test_example(self):
        world = World(grid(2, 2), 3)
        row = far(world=world, floor=(2, 1, 0, 0))
        self.assertEqual((row[63], row[5], row.count(1)), (0, 3, 2))
        self.assertIs(row.__class__, tuple)
        self.assertEqual(len(row), 81)

    def test_still_floors_and_dots(self):
        self.assertEqual(far(World(line(1), 3), (1,)), (-1, 0, -1))
        self.assertEqual(far(World(line(2), 2), (0, 1)), (-1, 0, -1, -1))

    def test_what_follows(self):
        chance = Random(11)
        for web, coats, fewer in ((grid(2, 3), 4, ((0, 1), (0, 2), (0, 3))), (ring(5), 3, CHAIN), (full(5), 3, STAR), (line(6), 3, CHAIN)):
            world, other = World(web, coats), World(web, coats, table=fewer)
            floors = sorted(all_floors(world))
            for _ in range(4):
                one = random_floor(world, chance)
                row, longer = far(world, one), far(other, one)
                for two, steps, more in zip(floors, row, longer):
                    self.assertEqual(steps < 0, more < 0)
                    self.assertLessEqual(steps, more)
                    self.assertLessEqual(more, (coats - 1) * abs(steps))
                    if steps >= 0:
                        self.assertGreaterEqual(2 * steps, sum(a != b for a, b in zip(one, two)))
                two = chance.choice(floors)
                self.assertEqual(row[floor_number(world, two)], far(world, two)[floor_number(world, one)])

    def test_the_limit(self):
        for coats, most in ((2, 14), (3, 9), (4, 7), (5, 6), (6, 5)):
            row = far(World(line(most), coats), (0,) * most)
            self.assertEqual((len(row), row[0], row[-1]), (coats ** most, 0, most // 2 if most % 2 == 0 else -1))
            self.refuses(TooLarge, coats ** (most + 1), far, World(line(most + 1), coats), (9,))
        self.assertEqual(far(World(full(14), 2), (0,) * 14)[-1], 7)

    def test_errors_in_order(self):
        for floor in ((9,), (0,) * 40, (9,) * 40):
            self.refuses(TooLarge, 6 ** 40, far, World(Web(40, ()), 6), floor)
        world = World(grid(2, 2), 2)
        self.refuses(BadSize, 3, far, world, (9, 9, 9))
        self.refuses(BadCoat, 1, far, world, (0, 2, -1, 0))
        self.refuses(BadCoat, 3, far, world, (0, 1, 1, -1))


class Shortest(Case):
    def test_example(self):
        world = World(grid(2, 2), 3)
        one, two = (2, 1, 0, 0), (0, 0, 1, 2)
        self.assertEqual(shortest(world, one, two), ((2, 3, 1), (1, 3, 2), (0, 1, 0)))
        self.assertEqual(shortest(world=world, one=one, two=one), ())
        self.assertIsNone(shortest(world, one, (0, 0, 0, 0)))

    def test_the_first_of_all(self):
        chance = Random(13)
        for world in WORLDS:
            floors = all_floors(world)
            pairs = [(one, two) for one in floors for two in floors]
            for one, two in chance.sample(pairs, min(len(pairs), 60)):
                away = slow_far(world, one)
                if away.get(two, 0) <= 5:
                    self.assertEqual(shortest(world, one, two), least_run(world, one, two), (world.web.links, one, two))

    def test_all_floors_of_a_class(self):
        for web, coats, table in ((grid(2, 3), 2, None), (ring(7), 2, None), (line(7), 2, None), (grid(2, 2), 4, ((0, 1), (1, 2), (2, 3)))):
            world = World(web, coats, table=table)
            one = (0,) * web.size
            for two, steps in slow_far(world, one).items():
                run = shortest(world, one, two)
                self.assertEqual(len(run), steps)
                self.is_true(run_right(world, one, two, run))

    def test_narrow_parts_and_no_run(self):
        self.assertEqual(shortest(World(line(3), 2), (0, 0, 1), (1, 0, 0)), ((0, 1, 1), (1, 2, 0)))
        self.assertIsNone(shortest(World(line(3), 3), (0, 0, 1), (0, 0, 2)))
        self.assertIsNone(shortest(World(line(2), 2), (0, 1), (1, 0)))
        self.assertEqual(shortest(World(line(2), 2), (0, 1), (0, 1)), ())
        self.assertEqual(shortest(World(line(1), 2), (1,), (1,)), ())
        self.assertIsNone(shortest(World(side_by_side(line(2), line(2)), 2), (0, 0, 0, 1), (1, 1, 1, 0)))
        self.assertEqual(shortest(World(side_by_side(line(2), line(2)), 2), (0, 0, 1, 1), (1, 1, 0, 0)), ((0, 1, 1), (2, 3, 0)))

    def test_tables_with_few_pairs(self):
        self.assertEqual(shortest(World(line(2), 3, table=CHAIN), (0, 0), (2, 2)), ((0, 1, 1), (0, 1, 2)))
        self.assertEqual(shortest(World(line(2), 3, table=STAR), (1, 1), (2, 2)), ((0, 1, 0), (0, 1, 2)))
        self.assertEqual(shortest(World(line(2), 3), (1, 1), (2, 2)), ((0, 1, 2),))

    def test_the_limit(self):
        for web, coats in ((full(14), 2), (ring(14), 2), (line(9), 3), (ring(6), 5)):
            world, one = World(web, coats), (0,) * web.size
            two = (0,) * (web.size - 2) + (coats - 1,) * 2
            self.assertEqual(len(shortest(world, one, two)), 1)
            self.is_true(run_right(world, one, two, shortest(world, one, two)))

    def test_errors_in_order(self):
        for one in ((9,), (0,) * 15):
            self.refuses(TooLarge, 2 ** 15, shortest, World(line(15), 2), one, (9,))
        world = World(grid(2, 2), 2)
        good = (0, 0, 0, 0)
        self.refuses(BadSize, 3, shortest, world, (9, 9, 9), (9,))
        self.refuses(BadCoat, 1, shortest, world, (0, 2, -1, 0), (9,))
        self.refuses(BadSize, 1, shortest, world, good, (9,))
        self.refuses(BadCoat, 2, shortest, world, good, (0, 1, -1, 2))
