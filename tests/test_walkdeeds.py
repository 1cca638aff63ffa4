from random import Random

from making import (
    Case, all_tables, crowded, full, grid, line, linked, random_steps, ring, side_by_side, slow_after, slow_let, stout_webs,
)

from pairfloors.chains import chain
from pairfloors.errors import BadCell, BadCoat, BadPair, BadSize, BadStep
from pairfloors.runs import replayed, run_right
from pairfloors.walkdeeds import run_of_steps
from pairfloors.worlds import World

FLOOR = (0, 0, 1, 1, 2, 0)
STEPS = ((1, 2), (1, 4))


def slow_run(world, floor, steps, x, y):
    """The run by the document, step by step, and the floor behind it."""
    run, pair = [], (x, y)
    for stay, to in steps:
        left = sum(pair) - stay
        for coat in chain(world, floor[stay], floor[to])[1:]:
            run.append((min(stay, left), max(stay, left), coat))
            assert slow_let(world, floor, run[-1])
            floor = slow_after(floor, run[-1])
        pair = (stay, to)
    return tuple(run), floor


class RunOfSteps(Case):
    def test_examples(self):
        world = World(grid(2, 3), 3)
        run = run_of_steps(world, FLOOR, 0, 1, STEPS)
        self.assertEqual(run, ((0, 1, 1), (1, 2, 2)))
        self.assertEqual(replayed(world, FLOOR, run), (1, 2, 2, 1, 2, 0))
        fewer = World(grid(2, 3), 3, table=((0, 1), (0, 2)))
        self.assertEqual(run_of_steps(fewer, FLOOR, 0, 1, STEPS), ((0, 1, 1), (1, 2, 0), (1, 2, 2)))
        self.assertEqual(run_of_steps(world=fewer, floor=FLOOR, x=1, y=0, steps=STEPS), ((0, 1, 1), (1, 2, 0), (1, 2, 2)))

    def test_no_steps(self):
        world = World(grid(2, 3), 3)
        self.assertEqual(run_of_steps(world, FLOOR, 0, 1, ()), ())
        self.assertEqual(run_of_steps(world, FLOOR, 1, 0, ()), ())

    def test_like_coats_at_a_step(self):
        world = World(ring(4), 2)
        self.assertEqual(run_of_steps(world, (0, 0, 0, 0), 0, 1, ((1, 2), (2, 3), (3, 0), (0, 1))), ())
        self.assertEqual(run_of_steps(world, (0, 0, 0, 1), 0, 1, ((1, 2), (2, 3), (3, 0))), ((1, 2, 1), (2, 3, 0)))
        self.assertEqual(run_of_steps(World(ring(4), 3), (0, 0, 1, 2), 0, 1, ((1, 2), (1, 0))), ((0, 1, 1),))

    def test_tables_in_which_coats_change_over_others(self):
        world = World(line(3), 6, table=tuple((c, c + 1) for c in range(5)))
        self.assertEqual(run_of_steps(world, (0, 0, 5), 0, 1, ((1, 2),)), tuple((0, 1, c) for c in (1, 2, 3, 4, 5)))
        self.assertEqual(run_of_steps(world, (5, 0, 0), 2, 1, ((1, 0),)), tuple((1, 2, c) for c in (1, 2, 3, 4, 5)))
        star = World(line(3), 6, table=tuple((0, c) for c in range(1, 6)))
        self.assertEqual(run_of_steps(star, (2, 2, 4), 0, 1, ((1, 2),)), ((0, 1, 0), (0, 1, 4)))

    def test_by_the_document(self):
        chance = Random(113)
        for web in stout_webs()[::4] + [ring(5), ring(6), line(5), side_by_side(line(1), ring(3), line(4))]:
            for coats, table in [(2, None), (3, None)] + [(4, chance.choice(all_tables(4))) for _ in range(3)]:
                world = World(web, coats, table=table)
                x, y = chance.choice(web.links)
                floor = [chance.randrange(coats) for _ in range(web.size)]
                floor[y] = floor[x]
                stones = tuple(-1 if z in (x, y) else coat for z, coat in enumerate(floor))
                self.check(world, tuple(floor), x, y, stones, chance)

    def check(self, world, floor, x, y, stones, chance):
        web = world.web
        free = [z for z in range(web.size) if z not in (x, y) and (linked(web, x, z) or linked(web, y, z))]
        for many in (0, 1, 2, 20) if free else (0,):
            steps, way = random_steps(web, stones, many, chance)
            run = run_of_steps(world, floor, x, y, steps)
            expected, behind = slow_run(world, floor, steps, x, y)
            self.assertEqual(run, expected)
            self.assertIsInstance(run, tuple)
            self.assertEqual(run_of_steps(world, floor, y, x, steps), run)
            self.is_true(run_right(world, floor, behind, run))
            # The stones lie where they should, and the walker wears the coat of the stone that was moved last.
            last = floor[x] if many == 0 else way[-2][steps[-1][1]]
            self.assertEqual(behind, tuple(last if stone == -1 else stone for stone in way[-1]))

    def test_many_steps(self):
        world = World(grid(2, 3), 6, table=tuple((c, c + 1) for c in range(5)))
        steps = ((1, 2), (2, 5), (5, 4), (4, 3), (3, 0), (0, 1)) * 10000
        run = run_of_steps(world, (0, 0, 1, 3, 5, 2), 0, 1, steps)
        self.assertLessEqual(len(run), 5 * len(steps))
        self.assertEqual(len(replayed(world, (0, 0, 1, 3, 5, 2), run)), 6)

    def test_errors_in_order(self):
        world = World(grid(2, 3), 3)
        self.refuses(BadSize, 2, run_of_steps, world, (9, 9), 9, 9, ((9, 9),))
        self.refuses(BadCoat, 1, run_of_steps, world, (0, 3, 9, 0, 0, 0), 9, 9, ((9, 9),))
        for bad in (-1, 6, 10 ** 30, -10 ** 30):
            self.refuses(BadCell, bad, run_of_steps, world, FLOOR, bad, 77, ((9, 9),))
            self.refuses(BadCell, bad, run_of_steps, world, FLOOR, 0, bad, ((9, 9),))
            self.refuses(BadCell, bad, run_of_steps, world, FLOOR, bad, bad, ())
        # Not linked, though alike; linked, but not alike; neither; one cell twice.
        for x, y in ((0, 5), (5, 0), (1, 2), (2, 1), (2, 3), (0, 4), (0, 0), (2, 2)):
            self.refuses(BadPair, (x, y), run_of_steps, world, FLOOR, x, y, ((9, 9),))
            self.refuses(BadPair, (x, y), run_of_steps, world, FLOOR, x, y, ())

    def test_bad_steps(self):
        world = World(grid(2, 3), 3)
        for step in ((0, 1), (1, 0), (0, 0), (0, 2), (0, 4), (1, 5), (2, 5), (4, 1), (-1, 0), (0, -3), (6, 1), (1, 10 ** 30),
                     (-10 ** 30, 3), (-6, 3), (-5, 2)):
            self.refuses(BadStep, 0, run_of_steps, world, FLOOR, 0, 1, (step,))
            self.refuses(BadStep, 0, run_of_steps, world, FLOOR, 1, 0, (step, (1, 2), step))
            self.refuses(BadStep, 2, run_of_steps, world, FLOOR, 0, 1, ((1, 2), (1, 0), step, (9, 9)))
        self.refuses(BadStep, 1, run_of_steps, world, FLOOR, 0, 1, ((1, 2), (0, 3)))
        # Cells that wear the same coat, but are not the walker's.
        self.refuses(BadStep, 0, run_of_steps, World(full(4), 2), (0,) * 4, 0, 1, ((2, 3),))

    def test_at_the_limits(self):
        world = World(crowded(), 6)
        self.assertEqual(run_of_steps(world, (5,) * 39 + (0,), 0, 1, ((0, 39),)), ((0, 1, 0),))
