from random import Random

from making import Case, all_floors, full, grid, let_deeds, line, random_floor, renamed, ring, side_by_side, slow_after, slow_far, two_rows

from pairfloors.ballcounts import ball, runs_of
from pairfloors.errors import BadCoat, BadCount, BadSize, TooLarge
from pairfloors.webs import Web
from pairfloors.worlds import World

CHAIN = ((0, 1), (1, 2))
WORLDS = (
    World(line(1), 2), World(line(2), 3), World(line(4), 3), World(grid(2, 2), 3), World(grid(2, 2), 3, table=CHAIN), World(full(4), 2),
    World(ring(5), 2), World(ring(3), 3, table=((0, 1), (0, 2))), World(Web(3, ()), 2), World(side_by_side(line(2), line(2)), 3, table=CHAIN),
    World(renamed(two_rows(2, 3), 4), 2),
)


def listed_runs(world, one, n):
    """The ends of all runs of n deeds from the floor."""
    ends = [one]
    for _ in range(n):
        ends = [slow_after(here, deed) for here in ends for deed in let_deeds(world, here)]
    return ends


class Ball(Case):
    def test_example(self):
        world, floor = World(grid(2, 2), 3), (2, 1, 0, 0)
        self.assertEqual(ball(world, floor, 1), 3)
        self.assertEqual(ball(world=world, floor=floor, n=0), 1)
        self.assertEqual(ball(world, floor, 1000), 8)

    def test_by_deeds(self):
        for world in WORLDS:
            for floor in all_floors(world):
                away = list(slow_far(world, floor).values())
                for n in (0, 1, 2, 3, 5, 999, 1000):
                    self.assertEqual(ball(world, floor, n), sum(steps <= n for steps in away))

    def test_still_floors(self):
        self.assertEqual([ball(World(line(1), 6), (5,), n) for n in (0, 1, 1000)], [1, 1, 1])
        self.assertEqual([ball(World(line(2), 2), (0, 1), n) for n in (0, 1, 1000)], [1, 1, 1])

    def test_the_limit(self):
        self.assertEqual(ball(World(full(14), 2), (0,) * 14, 1000), 2 ** 13)
        self.assertEqual(ball(World(full(14), 2), (0,) * 14, 1), 1 + 91)
        self.refuses(TooLarge, 2 ** 15, ball, World(full(15), 2), (0,) * 15, 1)

    def test_errors_in_order(self):
        for floor in ((9,), (0,) * 15):
            self.refuses(TooLarge, 2 ** 15, ball, World(line(15), 2), floor, -1)
        world = World(grid(2, 2), 2)
        self.refuses(BadSize, 3, ball, world, (9, 9, 9), -1)
        self.refuses(BadCoat, 1, ball, world, (0, 2, -1, 0), 1001)
        for n in (-1, 1001, 10 ** 30, -10 ** 30):
            self.refuses(BadCount, n, ball, world, (0, 0, 0, 0), n)


class RunsOf(Case):
    def test_example(self):
        world, one, two = World(grid(2, 2), 3), (2, 1, 0, 0), (0, 0, 1, 2)
        self.assertEqual([runs_of(world, one, two, n) for n in range(4)], [0, 0, 0, 2])
        self.assertEqual(runs_of(world=world, one=one, two=one, n=0), 1)

    def test_by_lists(self):
        chance = Random(17)
        for world in WORLDS:
            for one in chance.sample(all_floors(world), 2):
                for n in range(5):
                    ends = listed_runs(world, one, n)
                    for two in [one] + chance.choices(ends, k=3 if ends else 0) + [random_floor(world, chance)]:
                        self.assertEqual(runs_of(world, one, two, n), ends.count(two), (world.web.links, one, two, n))

    def test_there_and_back(self):
        chance = Random(19)
        for world in WORLDS:
            for n in (1, 4, 7, 12):
                one, two = random_floor(world, chance), random_floor(world, chance)
                self.assertEqual(runs_of(world, one, two, n), runs_of(world, two, one, n))

    def test_over_all_floors_between(self):
        world = World(grid(2, 2), 3, table=CHAIN)
        one, two = (0, 0, 1, 1), (1, 1, 2, 2)
        for m, n in ((0, 3), (2, 2), (5, 6), (3, 9), (12, 0)):
            between = sum(runs_of(world, one, here, m) * runs_of(world, here, two, n) for here in all_floors(world))
            self.assertEqual(runs_of(world, one, two, m + n), between)

    def test_millions_of_runs(self):
        # One link: after each deed the two cells may take each of the other coats.
        self.assertEqual(runs_of(World(line(2), 6), (0, 0), (1, 1), 12), (5 ** 12 - 1) // 6)
        self.assertEqual(runs_of(World(line(2), 6), (0, 0), (0, 0), 12), (5 ** 12 - 1) // 6 + 1)
        self.assertEqual(runs_of(World(side_by_side(*[line(2)] * 7), 2), (0,) * 14, (0,) * 14, 2), 7)
        # Six deeds from four like cells to two of each coat, and two deeds on from there.
        self.assertEqual(sum(runs_of(World(full(4), 2), (0,) * 4, two, 12) for two in all_floors(World(full(4), 2))), 12 ** 6)

    def test_no_run(self):
        for n in range(13):
            self.assertEqual(runs_of(World(line(2), 2), (0, 1), (1, 0), n), 0)
            self.assertEqual(runs_of(World(line(1), 2), (0,), (0,), n), int(n == 0))
            self.assertEqual(runs_of(World(grid(2, 2), 2), (0,) * 4, (0, 0, 0, 1), n), 0)

    def test_errors_in_order(self):
        for one in ((9,), (0,) * 15):
            self.refuses(TooLarge, 2 ** 15, runs_of, World(line(15), 2), one, (9,), -1)
        world, good = World(grid(2, 2), 2), (0, 0, 0, 0)
        self.refuses(BadSize, 3, runs_of, world, (9, 9, 9), (9,), 13)
        self.refuses(BadCoat, 1, runs_of, world, (0, 2, -1, 0), (9,), 13)
        self.refuses(BadSize, 1, runs_of, world, good, (9,), 13)
        self.refuses(BadCoat, 2, runs_of, world, good, (0, 1, -1, 2), 13)
        for n in (-1, 13, 1000, 10 ** 30, -10 ** 30):
            self.refuses(BadCount, n, runs_of, world, good, good, n)
