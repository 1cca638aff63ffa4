from making import (
    ODD_THINGS, Case, crowded, full, grid, is_odd_round, line, renamed, ring, side_by_side, slow_sides, some_webs,
    two_rows,
)

from pairfloors.errors import BadCell
from pairfloors.sides import odd_round, odd_round_right, sides
from pairfloors.webs import Web


class Sides(Case):
    def test_by_the_document(self):
        for web in some_webs():
            self.assertEqual(sides(web), slow_sides(web))

    def test_grid(self):
        self.assertEqual(sides(grid(2, 3)), (0, 1, 0, 1, 0, 1))
        self.assertEqual(sides(web=grid(2, 2)), (0, 1, 1, 0))

    def test_the_least_cell_of_each_part_is_light(self):
        web = Web(7, ((0, 6), (1, 5), (2, 5), (3, 4)))
        self.assertEqual(sides(web), (0, 0, 0, 0, 1, 1, 1))

    def test_mixed_parts(self):
        web = side_by_side(ring(3), line(3), ring(5), line(1), ring(4))
        self.assertEqual(sides(web), (-1,) * 3 + (0, 1, 0) + (-1,) * 5 + (0,) + (0, 1, 0, 1))

    def test_edges(self):
        self.assertEqual(sides(line(1)), (0,))
        self.assertEqual(sides(Web(40, ())), (0,) * 40)
        self.assertEqual(sides(line(40)), (0, 1) * 20)
        self.assertEqual(sides(crowded()), (-1,) * 40)
        self.assertEqual(sides(two_rows(8, 20)), (0,) * 8 + (1,) * 20)
        self.assertEqual(sides(ring(39)), (-1,) * 39)


class OddRounds(Case):
    def test_each_is_one(self):
        webs = some_webs() + [ring(39), crowded(), renamed(ring(39), 4), side_by_side(ring(33), ring(4), ring(3))]
        for web in webs:
            found = sides(web)
            for x in range(web.size):
                cells = odd_round(web, x)
                if found[x] < 0:
                    self.assertIsInstance(cells, tuple)
                    self.assertTrue(is_odd_round(web, x, cells), (web.links, x, cells))
                    self.is_true(odd_round_right(web, x, cells))
                else:
                    self.assertIsNone(cells)

    def test_long_way_to_the_round(self):
        # A round of three at the far end of a line, so that nearly twice as many cells as there are stand in it
        # if it is begun at the least cell.
        web = Web(40, tuple((x, x + 1) for x in range(38)) + ((37, 39), (38, 39)))
        for x in (0, 20, 39):
            self.assertTrue(is_odd_round(web, x, odd_round(web=web, x=x)))

    def test_no_cell(self):
        for x in (-1, 4, 10 ** 30):
            self.refuses(BadCell, x, odd_round, full(4), x)
            self.refuses(BadCell, x, odd_round, grid(2, 2), x)


class OddRoundsJudged(Case):
    def test_right(self):
        web = side_by_side(ring(3), ring(5))
        for x in (0, 1, 2):
            self.is_true(odd_round_right(web, x, (0, 1, 2)))
            self.is_true(odd_round_right(web, x, (2, 1, 0)))
        for x in (3, 7):
            self.is_true(odd_round_right(web, x, (4, 5, 6, 7, 3)))
        self.is_true(odd_round_right(cells=(1, 2, 0), x=1, web=web))

    def test_cells_may_stand_there_several_times(self):
        self.is_true(odd_round_right(ring(3), 0, (0, 1, 0, 1, 2)))
        self.is_true(odd_round_right(side_by_side(ring(3), line(1)), 0, (0, 1, 0, 1, 0, 1, 2)))

    def test_no_more_than_twice_the_size_of_the_web(self):
        self.is_false(odd_round_right(ring(3), 0, (0, 1, 0, 1, 0, 1, 2)))
        self.is_true(odd_round_right(full(4), 0, (0, 1, 0, 1, 0, 1, 2)))
        self.is_false(odd_round_right(full(4), 0, (0, 1, 0, 1, 0, 1, 0, 1, 2)))

    def test_wrong(self):
        web = side_by_side(ring(3), ring(5), ring(4))
        for cells in (
            (), (0,), (0, 1), (0, 1, 2, 0), (0, 1, 1), (0, 0, 1), (3, 4, 5), (3, 4, 5, 6, 7), (0, 1, 3), (1, 2, 3),
            (-1, 0, 1), (0, 1, -10), (0, 1, 12), (0, 1, 10 ** 30), (0, 1, 2, 0, 1, 2), (0, 1, 2, 1), (0, 1, 2, 1, 2, 1),
        ):
            self.is_false(odd_round_right(web, 0, cells))
        # Linked one after the other, but not the last to the first; and the other way about.
        self.is_false(odd_round_right(ring(5), 0, (0, 1, 2)))
        self.is_false(odd_round_right(ring(5), 0, (0, 1, 4)))
        self.is_false(odd_round_right(ring(5), 0, (0, 1, 2, 4, 3)))
        self.is_false(odd_round_right(ring(5), 0, (0, 1, 3, 2, 4)))

    def test_rounds_of_other_parts(self):
        web = side_by_side(ring(3), ring(3))
        self.is_false(odd_round_right(web, 3, (0, 1, 2)))
        self.is_false(odd_round_right(web, 0, (3, 4, 5)))

    def test_no_cell(self):
        for x in (-1, -3, 3, 10 ** 30):
            self.is_false(odd_round_right(ring(3), x, (0, 1, 2)))

    def test_odd_things(self):
        for web in (ring(3), grid(2, 2), line(1), crowded()):
            for thing in ODD_THINGS:
                self.is_false(odd_round_right(web, 0, thing))
                self.is_false(odd_round_right(web, 0, (0, 1, thing)))
                self.is_false(odd_round_right(web, 0, (thing, 0, 1)))
                self.is_false(odd_round_right(web, thing, (0, 1, 2)))

    def test_by_the_document(self):
        for web in (full(4), ring(3), side_by_side(ring(3), line(2)), ring(5)):
            for x in range(web.size):
                for cells in rows_of_three(web.size + 1):
                    self.assertIs(odd_round_right(web, x, cells), is_odd_round(web, x, cells))


def rows_of_three(limit):
    cells = range(-1, limit)
    return [(a, b, c) for a in cells for b in cells for c in cells]
