from itertools import product

from making import Case, all_floors, grid, ring, slow_still, slow_surplus, two_rows

from pairfloors.errors import BadCount
from pairfloors.surplusrows import surplus_count
from pairfloors.worlds import World


def slow_count(light, dark, coats):
    """How many rows of numbers count, by trying all of them."""
    rows = product(range(-dark, light + 1), repeat=coats)
    return sum(sum(row) == light - dark and sum(s for s in row if s > 0) <= light - 1 for row in rows)


class SurplusCount(Case):
    def test_examples(self):
        self.assertEqual(surplus_count(5, 5, 3), 61)
        self.assertEqual(surplus_count(3, 3, 4), 55)
        self.assertEqual(surplus_count(light=2, dark=2, coats=2), 3)
        self.assertEqual([surplus_count(2, 2, coats) for coats in (3, 4)], [7, 13])

    def test_by_rows(self):
        for coats, most in ((2, 7), (3, 5), (4, 4), (5, 3), (6, 2)):
            for light in range(1, most + 1):
                for dark in range(1, most + 1):
                    self.assertEqual(surplus_count(light, dark, coats), slow_count(light, dark, coats), (light, dark, coats))

    def test_by_floors(self):
        for web, light, dark in ((ring(4), 2, 2), (grid(2, 3), 3, 3), (two_rows(2, 3), 2, 3), (two_rows(3, 2), 3, 2), (two_rows(2, 4), 2, 4)):
            for coats in (2, 3):
                world, part = World(web, coats), tuple(range(web.size))
                found = {slow_surplus(world, floor, part) for floor in all_floors(world) if not slow_still(world, floor, part)}
                self.assertEqual(surplus_count(light, dark, coats), len(found))

    def test_the_least_and_the_greatest_arguments(self):
        for coats in range(2, 7):
            self.assertEqual(surplus_count(1, 1, coats), 1)
            self.assertEqual(surplus_count(1, 40, coats), surplus_count(40, 1, coats))
        self.assertEqual((surplus_count(1, 3, 2), surplus_count(1, 3, 3)), (3, 6))
        self.assertEqual(surplus_count(40, 40, 2), 79)
        self.assertEqual(surplus_count(40, 39, 2), 78)
        # One light cell is in the like pair, and 39 dark ones are left: so many ways to spread them over 6 coats.
        self.assertEqual(surplus_count(1, 40, 6), 1086008)
        self.assertEqual(surplus_count(40, 40, 6), 202183515)

    def test_sides_exchanged(self):
        for light, dark, coats in ((40, 13, 6), (7, 29, 5), (2, 3, 4)):
            self.assertEqual(surplus_count(light, dark, coats), surplus_count(dark, light, coats))

    def test_errors_in_order(self):
        for bad in (0, -1, 41, 10 ** 30, -10 ** 30):
            self.refuses(BadCount, bad, surplus_count, bad, 77, 1)
            self.refuses(BadCount, bad, surplus_count, bad, 1, 2)
            self.refuses(BadCount, bad, surplus_count, 1, bad, 7)
            self.refuses(BadCount, bad, surplus_count, 40, bad, 2)
        for coats in (1, 0, -1, 7, 10 ** 30, -10 ** 30):
            self.refuses(BadCount, coats, surplus_count, 1, 40, coats)
