from random import Random

from making import ODD_THINGS, Case, all_tables, crowded, full, grid, line, random_floor, random_run, ring, side_by_side

from pairfloors.errors import BadCoat, BadRun, BadSize
from pairfloors.runs import replayed, run_right, trail, turned_back
from pairfloors.worlds import World

REPLAYS = (replayed, trail, turned_back)


def some_runs():
    """Worlds with runs of them and the trails of these, which are made by the document."""
    chance = Random(13)
    webs = [line(3), ring(5), grid(2, 3), full(4), side_by_side(line(2), grid(2, 2)), line(1)]
    rows = []
    for web in webs:
        for coats in (2, 3, 4):
            for table in chance.sample(all_tables(coats), min(3, len(all_tables(coats)))):
                for many in (0, 1, 2, 9, 30):
                    world = World(web, coats, table=table)
                    rows.append((world,) + random_run(world, random_floor(world, chance), many, chance))
    return rows


class Replayed(Case):
    def test_by_the_document(self):
        for world, run, floors in some_runs():
            self.assertEqual(replayed(world, floors[0], run), floors[-1])
            self.assertEqual(trail(world, floors[0], run), floors)
            self.is_true(run_right(world, floors[0], floors[-1], run))
            self.assertIsInstance(trail(world, floors[0], run), tuple)
            self.assertEqual({floor.__class__ for floor in trail(world, floors[0], run)}, {tuple})

    def test_the_empty_run(self):
        for floor in ((0, 1), (1, 1)):
            world = World(line(2), 2)
            self.assertEqual(replayed(world, floor, ()), floor)
            self.assertEqual(trail(world, floor, ()), (floor,))
            self.assertEqual(turned_back(world, floor, ()), ())
            self.is_true(run_right(world, floor, floor, ()))

    def test_examples(self):
        world = World(grid(2, 3), 3)
        run = ((0, 1, 1), (1, 2, 2))
        self.assertEqual(replayed(world=world, floor=(0, 0, 1, 1, 2, 0), run=run), (1, 2, 2, 1, 2, 0))
        self.assertEqual(
            trail(world=world, floor=(0, 0, 1, 1, 2, 0), run=run),
            ((0, 0, 1, 1, 2, 0), (1, 1, 1, 1, 2, 0), (1, 2, 2, 1, 2, 0)),
        )
        self.assertEqual(turned_back(world=world, floor=(0, 0, 1, 1, 2, 0), run=run), ((1, 2, 1), (0, 1, 0)))

    def test_bad_runs(self):
        world = World(grid(2, 2), 3, table=((0, 1), (1, 2)))
        floor = (0, 0, 1, 1)
        for bad in ((0, 1, 0), (0, 1, 2), (1, 0, 1), (0, 0, 1), (0, 2, 1), (0, 3, 1), (0, 1, 3), (0, 1, -1), (-1, 0, 1),
                    (0, 4, 1), (0, 1, 10 ** 30), (10 ** 30, 0, 0), (-2, -1, 0), (0, -10 ** 30, 0)):
            for call in REPLAYS:
                self.refuses(BadRun, 0, call, world, floor, (bad,))
                self.refuses(BadRun, 0, call, world, floor, (bad, (0, 1, 1), bad))
                self.refuses(BadRun, 2, call, world, floor, ((2, 3, 2), (2, 3, 1), bad))
                self.refuses(BadRun, 2, call, world, floor, ((2, 3, 2), (2, 3, 1), bad, (7, 7, 7), (0, 1, 1)))

    def test_deeds_that_are_let_only_when_they_come(self):
        world = World(line(3), 3)
        self.assertEqual(replayed(world, (0, 0, 1), ((0, 1, 1), (1, 2, 2))), (1, 2, 2))
        for call in REPLAYS:
            self.refuses(BadRun, 0, call, world, (0, 0, 1), ((1, 2, 2), (0, 1, 1)))
            self.refuses(BadRun, 1, call, world, (0, 0, 0), ((0, 1, 1), (1, 2, 2)))
            self.refuses(BadRun, 1, call, world, (0, 0, 0), ((0, 1, 1), (0, 1, 1)))

    def test_the_floor_is_checked_first(self):
        world = World(line(3), 2)
        for call in REPLAYS:
            self.refuses(BadSize, 2, call, world, (9, 9), ((7, 7, 7),))
            self.refuses(BadSize, 4, call, world, (0,) * 4, ())
            self.refuses(BadCoat, 1, call, world, (0, 2, -1), ((7, 7, 7),))
            self.refuses(BadCoat, 2, call, world, (0, 0, -1), ())

    def test_long_runs_at_the_limits(self):
        world, floor = World(crowded(), 6), (0,) * 40
        run = tuple((0, 1, (k + 1) % 6) for k in range(5000))
        self.assertEqual(replayed(world, floor, run), (2, 2) + (0,) * 38)
        floors = trail(world, floor, run)
        self.assertEqual((len(floors), floors[4999]), (5001, (1, 1) + (0,) * 38))
        # Compared at once: unittest would look for the differences of such long tuples for hours.
        self.assertTrue(turned_back(world, floor, run) == tuple((0, 1, k % 6) for k in range(4999, -1, -1)))
        self.is_true(run_right(world, floor, (2, 2) + (0,) * 38, run[:2000]))
        self.refuses(BadRun, 5000, replayed, world, floor, run + ((0, 1, 2),))


class TurnedBack(Case):
    def test_by_the_document(self):
        for world, run, floors in some_runs():
            back = turned_back(world, floors[0], run)
            self.assertIsInstance(back, tuple)
            expected = tuple((x, y, floors[k][x]) for k, (x, y, _) in list(enumerate(run))[::-1])
            self.assertEqual(back, expected)
            self.assertEqual(trail(world, floors[-1], back), floors[::-1])
            self.assertEqual(turned_back(world, floors[-1], back), run)


class Judged(Case):
    def test_right(self):
        world = World(grid(2, 2), 2)
        self.is_true(run_right(world, (0, 0, 1, 1), (1, 1, 0, 0), ((0, 1, 1), (2, 3, 0))))
        self.is_true(run_right(World(grid(2, 2), 2), (0, 0, 0, 1), (1, 1, 0, 1), ((0, 1, 1),)))
        three = World(grid(2, 2), 3)
        for run in (((2, 3, 1), (1, 3, 2), (0, 1, 0)), ((2, 3, 2), (0, 2, 1), (0, 1, 0))):
            self.is_true(run_right(world=three, one=(2, 1, 0, 0), other=(0, 0, 1, 2), run=run))

    def test_wrong(self):
        world = World(grid(2, 2), 2)
        one, other, run = (0, 0, 1, 1), (1, 1, 0, 0), ((0, 1, 1), (2, 3, 0))
        self.is_false(run_right(world, one, other, run[:1]))
        self.is_false(run_right(world, one, other, ()))
        self.is_false(run_right(world, one, other, run + ((2, 3, 0),)))
        self.is_false(run_right(world, one, other, ((9, 9, 9),) + run))
        self.is_false(run_right(world, one, other, run + ((9, 9, 9),)))
        self.is_false(run_right(world, one, one, run))
        self.is_false(run_right(world, other, one, run))
        self.is_false(run_right(world, other, other, run))
        # The deeds before the one that is not let have led to the other floor already.
        self.is_false(run_right(world, one, other, run + ((0, 2, 1),)))

    def test_the_table_counts(self):
        world = World(line(2), 3, table=((0, 1), (1, 2)))
        self.is_false(run_right(world, (0, 0), (2, 2), ((0, 1, 2),)))
        self.is_true(run_right(world, (0, 0), (2, 2), ((0, 1, 1), (0, 1, 2))))

    def test_no_floors(self):
        world = World(line(2), 2)
        for bad in ((), (0,), (0, 0, 0), (0, 2), (-1, 0), (0, 10 ** 30), (0, "a"), (0, None), (0, (0,)), ((0, 0),)):
            self.is_false(run_right(world, bad, (0, 0), ()))
            self.is_false(run_right(world, (0, 0), bad, ()))
            self.is_false(run_right(world, bad, bad, ()))
            self.is_false(run_right(world, bad, bad, ((0, 1, 1),)))

    def test_numbers_of_any_size_in_runs(self):
        world = World(line(2), 2)
        for bad in (-1, 2, 10 ** 30, -10 ** 30):
            for deed in ((bad, 1, 1), (0, bad, 1), (0, 1, bad), (bad, bad, bad)):
                self.is_false(run_right(world, (0, 0), (1, 1), (deed,)))
                self.is_false(run_right(world, (0, 0), (1, 1), ((0, 1, 1), deed)))

    def test_odd_things(self):
        for world in (World(line(2), 2), World(line(1), 6), World(crowded(), 2)):
            floor = (0,) * world.web.size
            for thing in ODD_THINGS:
                if thing != ():
                    self.is_false(run_right(world, floor, floor, thing))
                self.is_false(run_right(world, floor, floor, (thing,)))
                self.is_false(run_right(world, floor, floor, ((0, 1, 1), (0, 1, 0), thing)))
                self.is_false(run_right(world, floor, floor, ((0, 1, thing),)))
                self.is_false(run_right(world, floor, floor, ((thing, 1, 1),)))
                self.is_false(run_right(world, floor, thing, ()))
                self.is_false(run_right(world, thing, floor, ()))
                self.is_false(run_right(world, thing, thing, ()))
                self.is_false(run_right(world, thing, thing, thing))

    def test_deeds_of_another_length(self):
        world = World(line(2), 2)
        for deed in ((), (0,), (0, 1), (0, 1, 1, 1), "011", ("0", "1", "1")):
            self.is_false(run_right(world, (0, 0), (1, 1), (deed,)))
            self.is_false(run_right(world, (0, 0), (0, 0), (deed,)))
            # Behind a deed that is not let, too.
            self.is_false(run_right(world, (0, 0), (0, 0), ((5, 5, 5), deed)))
