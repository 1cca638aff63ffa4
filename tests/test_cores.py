from itertools import product
from random import Random

from making import Case, full, grid, line, made, near, renamed, ring, side_by_side, slow_core, slow_part, slow_ring_row

from pairfloors.cores import core_of, ring_row
from pairfloors.errors import BadCell, BadCoat, BadSize, NotRing


class Rows(Case):
    def test_rings_in_order(self):
        for n in (3, 5, 6, 7, 39, 40):
            self.assertEqual(ring_row(ring(n), n - 1), tuple(range(n)))

    def test_by_the_document(self):
        for n in (3, 5, 6, 7):
            for seed in range(6):
                web = renamed(side_by_side(ring(n), line(2), full(4)), seed)
                for x in range(web.size):
                    part = slow_part(web, x)
                    if len(part) == n:
                        self.assertEqual(ring_row(web=web, x=x), slow_ring_row(web, part))

    def test_long_rings(self):
        for n in (8, 21, 40):
            for seed in range(5):
                web = renamed(ring(n), seed)
                row = ring_row(web, seed)
                self.assertEqual(sorted(row), list(range(n)))
                self.assertEqual((row[0], row[1]), (0, near(web, 0)[0]))
                for at in range(n):
                    self.assertIn(row[at - 1], near(web, row[at]))

    def test_other_kinds(self):
        web = side_by_side(line(1), ring(4), full(4), line(3), grid(2, 3), ring(3))
        for x in range(18):
            self.refuses(NotRing, slow_part(web, x)[0], ring_row, web, x)
        self.assertEqual(ring_row(web, 20), (18, 19, 20))
        self.refuses(NotRing, 0, ring_row, made(6, list(ring(5).links) + [(2, 5)]), 5)

    def test_no_cell(self):
        for x in (-1, 5, 10 ** 30, -10 ** 30):
            self.refuses(BadCell, x, ring_row, ring(5), x)
            self.refuses(BadCell, x, ring_row, line(2), x)


class Cores(Case):
    def test_examples(self):
        for row, core in (
            ((0, 1, 0, 2, 1, 0, 0, 2), (0, 1, 0, 2, 1, 2)), ((1, 0, 1, 2, 0, 0), (1, 0, 1, 2)), ((0, 2, 1), (0, 2, 1)),
            ((1, 1, 2), (2,)), ((0, 1, 1, 0, 2), (2,)),
        ):
            self.assertEqual(core_of(row), core)
        self.assertEqual(core_of(row=(0, 0, 0, 1, 2)), (0, 1, 2))
        self.assertEqual(core_of((0, 0, 0, 2, 1)), (0, 2, 1))

    def test_one_letter_and_none(self):
        self.assertEqual(core_of((0, 0, 0)), (0,))
        self.assertEqual(core_of((5, 5, 5, 5)), ())
        self.assertEqual(core_of((1, 2, 2, 1)), ())
        self.assertEqual(core_of((0, 1, 1, 0)), ())
        self.assertEqual(core_of((0, 1, 2, 1, 0)), (2,))
        self.assertEqual(core_of((3,) * 40), ())
        self.assertEqual(core_of((3,) * 39), (3,))

    def test_two_letters(self):
        self.assertEqual(core_of((0, 1, 1, 1)), (0, 1))
        self.assertEqual(core_of((1, 0, 0, 0)), (1, 0))
        self.assertEqual(core_of((0, 0, 0, 1)), (0, 1))
        self.assertEqual(core_of((0, 0, 1, 0)), (1, 0))

    def test_nothing_is_struck_out(self):
        self.assertEqual(core_of((2, 1, 0)), (0, 2, 1))
        self.assertEqual(core_of((1, 0, 1, 0)), (1, 0, 1, 0))
        self.assertEqual(core_of((0, 1, 0, 1)), (0, 1, 0, 1))
        self.assertEqual(core_of((2, 0, 1, 0)), (1, 0, 2, 0))
        self.assertEqual(core_of((1, 2, 0, 1, 2)), (0, 1, 2, 1, 2))

    def test_by_the_document(self):
        chance = Random(67)
        rows = [row for n in range(3, 8) for row in product(range(3), repeat=n)]
        rows += [tuple(chance.randrange(6) for _ in range(n)) for n in (8, 9, 23, 39, 40) for _ in range(30)]
        rows += [tuple(chance.randrange(2) for _ in range(n)) for n in (8, 9, 23, 39, 40) for _ in range(30)]
        for row in rows:
            self.assertEqual(core_of(row), slow_core(row, chance), row)

    def test_turned_rows(self):
        chance = Random(71)
        for n in list(range(3, 12)) + [39, 40]:
            for coats in (2, 3, 6):
                row = tuple(chance.randrange(coats) for _ in range(n))
                for by in range(0, n, 2):
                    self.assertEqual(core_of(row[by:] + row[:by]), core_of(row))
                if n % 2:
                    self.assertEqual(core_of(row[1:] + row[:1]), core_of(row))
        # With an even number of letters, one place more makes another core.
        self.assertEqual((core_of((0, 1, 2, 2)), core_of((1, 2, 2, 0))), ((0, 1), (1, 0)))

    def test_a_core_with_zeros_behind_is_its_own(self):
        for row in product(range(3), repeat=6):
            core = core_of(row)
            self.assertEqual(core_of(core + (0,) * (6 - len(core))), core)

    def test_errors(self):
        for row in ((), (0,), (0, 9), (0,) * 41, (9,) * 50):
            self.refuses(BadSize, len(row), core_of, row)
        self.refuses(BadCoat, 0, core_of, (6, 0, -1))
        self.refuses(BadCoat, 2, core_of, (5, 0, -1))
        self.refuses(BadCoat, 39, core_of, (0,) * 39 + (10 ** 30,))
        self.refuses(BadCoat, 1, core_of, (0, -10 ** 30, 9))
