from itertools import permutations
from random import Random

from making import Case, all_tables, crowded, full, grid, line, random_floor, random_run, ring, side_by_side

from pairfloors.chains import chain, widened
from pairfloors.errors import BadCoat, BadRun, BadSize
from pairfloors.runs import replayed
from pairfloors.worlds import World


def slow_chain(coats, table, p, r):
    """The first of the shortest rows from p to r, by trying all rows without repetition."""
    for many in range(1, coats + 1):
        rows = [row for row in permutations(range(coats), many) if row[0] == p and row[-1] == r]
        rows = [row for row in rows if all((a, b) in table or (b, a) in table for a, b in zip(row, row[1:]))]
        if rows:
            return min(rows)


def some_tables():
    tables = [(coats, table) for coats in (2, 3, 4) for table in all_tables(coats)]
    chance = Random(17)
    tables += [(5, table) for table in chance.sample(all_tables(5), 30)]
    every = tuple((p, r) for p in range(6) for r in range(p + 1, 6))
    tables += [(6, every), (6, tuple((c, c + 1) for c in range(5))), (6, tuple((0, c) for c in range(1, 6)))]
    return tables + [(6, ((0, 4), (0, 5), (1, 4), (1, 5), (2, 3), (2, 5), (3, 4)))]


class Chains(Case):
    def test_by_the_document(self):
        for coats, table in some_tables():
            world = World(line(1), coats, table=table)
            for p in range(coats):
                for r in range(coats):
                    self.assertEqual(chain(world, p, r), slow_chain(coats, table, p, r))

    def test_rows(self):
        world = World(line(2), 4, table=((0, 1), (1, 2), (2, 3)))
        self.assertEqual(chain(world, 0, 3), (0, 1, 2, 3))
        self.assertEqual(chain(world=world, p=3, r=1), (3, 2, 1))
        self.assertEqual(chain(world, 2, 2), (2,))
        self.assertEqual(chain(World(line(2), 4), 3, 0), (3, 0))

    def test_the_first_of_several(self):
        world = World(line(2), 4, table=((0, 1), (0, 2), (1, 3), (2, 3)))
        self.assertEqual(chain(world, 0, 3), (0, 1, 3))
        self.assertEqual(chain(world, 3, 0), (3, 1, 0))
        self.assertEqual(chain(world, 1, 2), (1, 0, 2))
        # The least coat of the first step lies on no shortest row.
        self.assertEqual(chain(World(line(2), 4, table=((0, 1), (1, 2), (2, 3))), 1, 3), (1, 2, 3))

    def test_no_coats(self):
        for coats in (2, 6):
            world = World(line(2), coats)
            for bad in (-1, coats, 10 ** 30, -10 ** 30):
                self.refuses(BadCoat, bad, chain, world, bad, 0)
                self.refuses(BadCoat, bad, chain, world, 0, bad)
                self.refuses(BadCoat, bad, chain, world, bad, bad)
                self.refuses(BadCoat, bad, chain, world, bad, 77)
                self.refuses(BadCoat, 77, chain, world, 77, bad)


class Widened(Case):
    def test_example(self):
        world = World(grid(2, 3), 3, table=((0, 1), (0, 2)))
        run = ((0, 1, 1), (1, 2, 2))
        self.assertEqual(widened(world, (0, 0, 1, 1, 2, 0), run), ((0, 1, 1), (1, 2, 0), (1, 2, 2)))
        self.assertEqual(widened(World(grid(2, 3), 3), (0, 0, 1, 1, 2, 0), run), run)

    def test_by_the_document(self):
        chance = Random(19)
        for coats, table in some_tables():
            for web in (line(3), ring(5), full(4), side_by_side(line(2), grid(2, 2))):
                world, wide = World(web, coats, table=table), World(web, coats)
                run, floors = random_run(wide, random_floor(wide, chance), chance.choice((1, 2, 8)), chance)
                wider = [
                    (x, y, c) for k, (x, y, coat) in enumerate(run) for c in slow_chain(coats, table, floors[k][x], coat)[1:]
                ]
                self.assertEqual(widened(world, floors[0], run), tuple(wider))
                self.assertEqual(replayed(world, floors[0], tuple(wider)), floors[-1])

    def test_the_empty_run(self):
        self.assertEqual(widened(world=World(line(2), 2), floor=(0, 1), run=()), ())

    def test_at_the_limits(self):
        world = World(crowded(), 6, table=tuple((c, c + 1) for c in range(5)))
        run = tuple((0, 1, (0, 5)[k % 2 == 0]) for k in range(2000))
        wider = widened(world, (0,) * 40, run)
        self.assertEqual((len(wider), wider[:6]), (10000, tuple((0, 1, c) for c in (1, 2, 3, 4, 5, 4))))
        self.assertEqual(replayed(world, (0,) * 40, wider), (0,) * 40)

    def test_bad_runs(self):
        world = World(line(3), 3, table=((0, 1), (1, 2)))
        self.assertEqual(widened(world, (0, 0, 0), ((0, 1, 2),)), ((0, 1, 1), (0, 1, 2)))
        for bad in ((0, 1, 2), (1, 2, 0), (1, 0, 0), (0, 2, 1), (0, 1, 3), (0, 1, -1), (-1, 0, 1), (2, 3, 1), (0, 0, 1),
                    (10 ** 30, 1, 1), (0, 1, 10 ** 30)):
            self.refuses(BadRun, 1, widened, world, (0, 0, 0), ((0, 1, 2), bad))
            self.refuses(BadRun, 1, widened, world, (0, 0, 0), ((0, 1, 2), bad, (9, 9, 9)))
            self.refuses(BadRun, 2, widened, world, (0, 0, 0), ((0, 1, 1), (0, 1, 2), bad))
        self.refuses(BadRun, 0, widened, world, (0, 0, 0), ((0, 1, 0),))

    def test_the_floor_is_checked_first(self):
        world = World(line(3), 3, table=((0, 1), (1, 2)))
        self.refuses(BadSize, 2, widened, world, (9, 9), ((9, 9, 9),))
        self.refuses(BadCoat, 1, widened, world, (0, 3, -1), ((9, 9, 9),))
