from making import Case, crowded, grid, line, renamed, ring, side_by_side, slow_rows, some_webs

from pairfloors.errors import BadCell
from pairfloors.ways import steps_apart, way
from pairfloors.webs import Web


class Ways(Case):
    def test_by_the_document(self):
        for web in some_webs():
            for x in range(web.size):
                apart = steps_apart(web, x)
                self.assertIsInstance(apart, tuple)
                self.assertEqual(len(apart), web.size)
                for y in range(web.size):
                    rows = slow_rows(web, x, y)
                    self.assertEqual(way(web, x, y), min(rows, default=None), (web.links, x, y))
                    self.assertEqual(apart[y], len(rows[0]) - 1 if rows else -1)

    def test_steps(self):
        self.assertEqual(steps_apart(grid(2, 3), 0), (0, 1, 2, 1, 2, 3))
        self.assertEqual(steps_apart(side_by_side(line(3), line(2)), 1), (1, 0, 1, -1, -1))
        self.assertEqual(steps_apart(web=ring(5), x=2), (2, 1, 0, 1, 2))
        self.assertEqual(steps_apart(line(1), 0), (0,))

    def test_the_first_of_the_shortest(self):
        self.assertEqual(way(grid(2, 3), 0, 5), (0, 1, 2, 5))
        self.assertEqual(way(grid(2, 3), 5, 0), (5, 2, 1, 0))
        self.assertEqual(way(ring(6), 0, 3), (0, 1, 2, 3))
        self.assertEqual(way(web=ring(6), x=3, y=0), (3, 2, 1, 0))
        self.assertEqual(way(ring(6), 1, 4), (1, 0, 5, 4))

    def test_the_least_cell_may_be_a_detour(self):
        web = Web(5, ((0, 1), (0, 4), (1, 2), (1, 3), (2, 4), (3, 4)))
        self.assertEqual(way(web, 1, 4), (1, 0, 4))
        self.assertEqual(way(Web(5, ((0, 1), (1, 2), (1, 3), (2, 4), (3, 4))), 1, 4), (1, 2, 4))

    def test_edges(self):
        for web in (line(1), grid(2, 2), side_by_side(line(2), line(2))):
            for x in range(web.size):
                self.assertEqual(way(web, x, x), (x,))
        self.assertIsNone(way(side_by_side(line(2), line(2)), 0, 3))
        self.assertIsNone(way(Web(40, ()), 0, 39))

    def test_at_the_limits(self):
        self.assertEqual(way(line(40), 39, 0), tuple(range(39, -1, -1)))
        self.assertEqual(steps_apart(line(40), 0), tuple(range(40)))
        self.assertEqual(way(grid(5, 8), 0, 39), (0, 1, 2, 3, 4, 5, 6, 7, 15, 23, 31, 39))
        self.assertEqual(way(crowded(), 38, 39), (38, 0, 39))
        web = renamed(grid(5, 8), 6)
        self.assertEqual(max(max(steps_apart(web, x)) for x in range(40)), 11)

    def test_no_cell(self):
        web = side_by_side(line(2), ring(3))
        for bad in (-1, 5, 10 ** 30, -10 ** 30):
            self.refuses(BadCell, bad, steps_apart, web, bad)
            self.refuses(BadCell, bad, way, web, bad, 0)
            self.refuses(BadCell, bad, way, web, 0, bad)
            self.refuses(BadCell, bad, way, web, bad, 77)
        self.refuses(BadCell, 8, way, web, 8, 9)
        self.refuses(BadCell, 9, way, web, 9, 9)
