from making import Case, all_floors, full, slow_odd, slow_still

from pairfloors.errors import BadCount
from pairfloors.tallies import odd_count
from pairfloors.worlds import World


class OddCount(Case):
    def test_examples(self):
        self.assertEqual(odd_count(6, 3), 4)
        self.assertEqual(odd_count(n=4, coats=4), 7)
        self.assertEqual(odd_count(1, 2), 0)

    def test_by_floors(self):
        for n, coats in ((4, 2), (4, 3), (4, 4), (4, 5), (5, 2), (5, 3), (5, 4), (6, 2), (6, 3)):
            world = World(full(n), coats)
            part = tuple(range(n))
            found = {slow_odd(world, floor, part) for floor in all_floors(world) if not slow_still(world, floor, part)}
            self.assertEqual(odd_count(n, coats), len(found))

    def test_the_least_and_the_greatest_arguments(self):
        self.assertEqual([odd_count(n, 2) for n in range(1, 7)], [0, 1, 2, 2, 2, 2])
        self.assertEqual([odd_count(n, 6) for n in range(1, 10)], [0, 1, 6, 16, 26, 31, 32, 32, 32])
        for coats in range(2, 7):
            self.assertEqual(odd_count(1, coats), 0)
            self.assertEqual((odd_count(39, coats), odd_count(40, coats)), (2 ** (coats - 1),) * 2)

    def test_errors_in_order(self):
        for n in (0, -1, 41, 10 ** 30, -10 ** 30):
            for coats in (2, 1, 7):
                self.refuses(BadCount, n, odd_count, n, coats)
        for coats in (1, 0, -1, 7, 10 ** 30, -10 ** 30):
            self.refuses(BadCount, coats, odd_count, 1, coats)
            self.refuses(BadCount, coats, odd_count, 40, coats)
