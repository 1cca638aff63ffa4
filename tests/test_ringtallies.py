from itertools import product
from random import Random

from making import Case, slow_core

from pairfloors.cores import core_of
from pairfloors.errors import BadCount
from pairfloors.ringtallies import core_count, ring_lot

SMALL = ((3, 2), (3, 3), (3, 6), (4, 2), (4, 3), (4, 4), (5, 2), (5, 3), (5, 4), (5, 5), (6, 2), (6, 3), (6, 4), (7, 2), (7, 3), (8, 2), (8, 3), (9, 2))


def cores(n, coats):
    """The core of each row of n coats."""
    chance = Random(n * 10 + coats)
    return [slow_core(row, chance) for row in product(range(coats), repeat=n)]


def alternating(m):
    return tuple(at % 2 for at in range(m))


class CoreCount(Case):
    def test_examples(self):
        self.assertEqual(core_count(8, 3), 45)
        self.assertEqual(core_count(n=5, coats=3), 5)
        self.assertEqual(core_count(6, 3), 19)
        self.assertEqual(core_count(7, 3), 11)

    def test_by_rows(self):
        for n, coats in SMALL:
            self.assertEqual(core_count(n, coats), len({core for core in cores(n, coats) if len(core) < n}), (n, coats))

    def test_the_least_and_the_greatest_arguments(self):
        # A ring of 3 has cores of one letter alone; in two coats what is left goes to and fro between them.
        self.assertEqual([core_count(3, coats) for coats in range(2, 7)], [2, 3, 4, 5, 6])
        self.assertEqual([core_count(n, 2) for n in (39, 40)], [2, 39])
        self.assertEqual(core_count(40, 6), 19991456475311108262691131)
        self.assertEqual(core_count(40, 6), core_count(38, 6) + 19147256879430068166632430)
        for n in range(5, 41):
            for coats in range(2, 7):
                self.assertGreaterEqual(core_count(n, coats), core_count(n - 2, coats))

    def test_errors_in_order(self):
        for n in (2, 1, 0, -1, 41, 10 ** 30, -10 ** 30):
            for coats in (2, 1, 7):
                self.refuses(BadCount, n, core_count, n, coats)
        for coats in (1, 0, -1, 7, 10 ** 30, -10 ** 30):
            self.refuses(BadCount, coats, core_count, 3, coats)
            self.refuses(BadCount, coats, core_count, 40, coats)


class RingLot(Case):
    def test_examples(self):
        self.assertEqual(ring_lot(5, 3, (0,)), 51)
        self.assertEqual(ring_lot(n=5, coats=3, core=(0, 1, 2)), 30)
        self.assertEqual(ring_lot(5, 3, (0, 2, 1)), 30)
        self.assertEqual(ring_lot(5, 3, (1, 2, 0)), 0)
        self.assertEqual(ring_lot(4, 2, (0, 1)), 4)
        self.assertEqual(ring_lot(4, 2, (1, 0)), 4)

    def test_by_rows(self):
        for n, coats in SMALL:
            found = cores(n, coats)
            for core in set(found):
                self.assertEqual(ring_lot(n, coats, core), found.count(core), (n, coats, core))

    def test_tuples_that_are_no_cores(self):
        for n, coats in ((3, 3), (4, 2), (4, 3), (5, 3), (6, 2)):
            found = set(cores(n, coats))
            for many in range(n + 2):
                for row in product(range(-1, coats + 1), repeat=many):
                    self.assertEqual(ring_lot(n, coats, row) > 0, row in found, (n, coats, row))

    def test_letters_that_are_no_coats(self):
        for core in ((3,), (-1,), (10 ** 30,), (-10 ** 30,), (6,), (0, 1, 3), (0, 1, 10 ** 3999)):
            self.assertEqual(ring_lot(5, 3, core), 0)
            self.assertEqual(ring_lot(39, 3, core), 0)
        self.assertGreater(ring_lot(5, 4, (3,)), 0)

    def test_cores_that_are_too_long_or_of_the_wrong_length(self):
        for core in ((0,), (0, 1, 2), (0, 1) * 3, alternating(41), (0,) * 9999, (10 ** 30,) * 50, alternating(42)):
            self.assertEqual(ring_lot(4, 3, core), 0)
        for n in (39, 40):
            self.assertEqual(ring_lot(n, 2, alternating(41)), 0)
            self.assertEqual(ring_lot(n, 2, alternating(42)), 0)

    def test_cores_of_all_letters(self):
        self.assertEqual(ring_lot(5, 3, (0, 1, 0, 1, 2)), 5)
        self.assertEqual(ring_lot(6, 3, (0, 1, 2, 0, 1, 2)), 3)
        self.assertEqual(ring_lot(6, 2, alternating(6)), 1)
        self.assertEqual(ring_lot(6, 2, alternating(7)[1:]), 1)
        self.assertEqual(ring_lot(40, 2, alternating(40)), 1)
        self.assertEqual(ring_lot(40, 3, alternating(38) + (0, 2)), 20)
        self.assertEqual(ring_lot(39, 6, alternating(38) + (5,)), 39)

    def test_the_sum_over_all_cores(self):
        for n, coats in ((3, 6), (4, 6), (8, 3), (9, 3), (11, 2), (12, 2), (6, 5), (7, 4)):
            found = {core_of(row) for row in product(range(coats), repeat=n)}
            self.assertEqual(sum(ring_lot(n, coats, core) for core in found), coats ** n)

    def test_the_greatest_arguments(self):
        # In two coats the letters that are left go to and fro, so their cores can be listed.
        every = [()] + [core for m in range(2, 41, 2) for core in (alternating(m), alternating(m + 1)[1:])]
        self.assertEqual(sum(ring_lot(40, 2, core) for core in every), 2 ** 40)
        self.assertEqual(ring_lot(39, 2, (0,)) + ring_lot(39, 2, (1,)), 2 ** 39)
        self.assertEqual([ring_lot(39, 6, (c,)) for c in range(6)], [ring_lot(39, 6, (0,))] * 6)
        self.assertEqual(ring_lot(40, 6, ()), 1085277825187995202031196)
        self.assertEqual(ring_lot(3, 2, (0,)), 4)
        self.assertEqual(ring_lot(3, 6, (0,)), 16)
        self.assertEqual(ring_lot(3, 6, (0, 1, 5)), 3)

    def test_nothing_is_left(self):
        # Rows of which nothing is left: one closed way there and back in the tree whose cells have one link for each coat.
        self.assertEqual([ring_lot(n, 2, ()) for n in (4, 6, 8)], [6, 20, 70])
        self.assertEqual([ring_lot(n, 3, ()) for n in (4, 6, 8)], [15, 87, 543])
        for n in range(3, 41, 2):
            self.assertEqual(ring_lot(n, 6, ()), 0)

    def test_errors_in_order(self):
        for n in (2, 1, 0, -1, 41, 10 ** 30, -10 ** 30):
            for coats, core in ((2, (0,)), (1, ()), (7, (10 ** 30,))):
                self.refuses(BadCount, n, ring_lot, n, coats, core)
        for coats in (1, 0, -1, 7, 10 ** 30, -10 ** 30):
            self.refuses(BadCount, coats, ring_lot, 3, coats, (0,))
            self.refuses(BadCount, coats, ring_lot, 40, coats, (99,) * 99)
