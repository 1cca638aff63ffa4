from making import Case, crowded, full, grid, linked, ring, slow_mates, some_webs, two_rows

from pairfloors.errors import BadCell, BadPair
from pairfloors.squares import square_mate
from pairfloors.webs import Web


class Mates(Case):
    def test_example(self):
        web = Web(4, ((0, 1), (0, 2), (1, 3), (2, 3)))
        self.assertEqual(square_mate(web, 1, 0, 3), 2)
        self.assertEqual(square_mate(web=web, y=1, x=3, z=0), 2)
        self.assertEqual(square_mate(web, 3, 1, 2), 0)

    def test_a_mate_may_be_linked_to_the_middle(self):
        self.assertEqual(square_mate(full(4), 0, 1, 2), 3)
        self.assertEqual(square_mate(full(4), 3, 1, 2), 0)

    def test_none(self):
        self.assertIsNone(square_mate(ring(3), 0, 1, 2))
        self.assertIsNone(square_mate(ring(5), 0, 1, 4))
        self.assertIsNone(square_mate(grid(2, 3), 1, 0, 2))

    def test_the_least_one(self):
        self.assertEqual(square_mate(two_rows(4, 3), 2, 4, 5), 0)
        self.assertEqual(square_mate(two_rows(4, 3), 0, 4, 5), 1)
        self.assertEqual(square_mate(full(6), 1, 0, 3), 2)

    def test_by_the_document(self):
        for web in some_webs():
            for y in range(web.size):
                for x in range(web.size):
                    for z in range(web.size):
                        self.check(web, y, x, z)

    def check(self, web, y, x, z):
        if x == z or not linked(web, x, y) or not linked(web, z, y):
            self.refuses(BadPair, (x, z), square_mate, web, y, x, z)
        else:
            self.assertEqual(square_mate(web, y, x, z), min(slow_mates(web, y, x, z), default=None))

    def test_at_the_limits(self):
        self.assertEqual(square_mate(crowded(), 0, 1, 2), 3)
        self.assertEqual(square_mate(crowded(), 39, 0, 1), 2)

    def test_no_cells_in_the_order_of_the_arguments(self):
        web = grid(2, 2)
        for bad in (-1, 4, 10 ** 30, -10 ** 30):
            self.refuses(BadCell, bad, square_mate, web, bad, 0, 3)
            self.refuses(BadCell, bad, square_mate, web, 1, bad, 3)
            self.refuses(BadCell, bad, square_mate, web, 1, 0, bad)
        self.refuses(BadCell, 7, square_mate, web, 7, 8, 9)
        self.refuses(BadCell, 8, square_mate, web, 1, 8, 9)
        self.refuses(BadCell, 9, square_mate, web, 1, 0, 9)
        self.refuses(BadCell, 9, square_mate, web, 1, 2, 9)
        self.refuses(BadCell, 8, square_mate, web, 1, 8, 8)

    def test_bad_pairs(self):
        web = grid(2, 2)
        for x, z in ((0, 0), (0, 1), (1, 0), (0, 2), (2, 0), (2, 2), (1, 1), (2, 3)):
            self.refuses(BadPair, (x, z), square_mate, web, 1, x, z)
