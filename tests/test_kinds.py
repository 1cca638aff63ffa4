from making import (
    ODD_THINGS, Case, crowded, full, grid, line, made, renamed, ring, side_by_side, slow_kind, slow_stout, some_webs,
    two_rows,
)

from pairfloors.errors import BadCell
from pairfloors.kinds import is_stout, kind
from pairfloors.webs import Web


class Kinds(Case):
    def test_by_the_document(self):
        for web in some_webs():
            for x in range(web.size):
                self.assertEqual(kind(web, x), slow_kind(web, x), (web.links, x))
                self.assertIs(is_stout(web, x), slow_stout(web, x))

    def test_dots(self):
        self.assertEqual(kind(line(1), 0), "dot")
        self.assertEqual(kind(Web(40, ()), 39), "dot")
        self.is_false(is_stout(line(1), 0))

    def test_rings(self):
        for n in (3, 5, 6, 7, 8, 39, 40):
            self.assertEqual(kind(ring(n), n - 1), "ring")
            self.is_false(is_stout(ring(n), 0))

    def test_a_round_of_four_is_stout(self):
        for web in (ring(4), grid(2, 2), Web(4, ((0, 1), (0, 2), (1, 3), (2, 3)))):
            self.assertEqual(kind(web, 0), "stout")
            self.is_true(is_stout(web=web, x=3))

    def test_lines_are_narrow(self):
        for n in (2, 3, 4, 5, 40):
            self.assertEqual(kind(line(n), 0), "narrow")
            self.assertEqual(kind(x=n - 1, web=line(n)), "narrow")
            self.is_false(is_stout(line(n), 0))

    def test_stout(self):
        for web in (grid(2, 3), grid(5, 8), full(4), full(5), two_rows(2, 3), two_rows(8, 20), renamed(grid(4, 10), 5)):
            for x in range(web.size):
                self.assertEqual(kind(web, x), "stout")
                self.is_true(is_stout(web, x))

    def test_squares_that_share_one_cell_are_narrow(self):
        web = made(7, [(0, 1), (1, 2), (2, 3), (3, 0), (3, 4), (4, 5), (5, 6), (6, 3)])
        for x in range(7):
            self.assertEqual(kind(web, x), "narrow")

    def test_squares_with_one_link_between_them_are_narrow(self):
        self.assertEqual(kind(made(8, list(side_by_side(ring(4), ring(4)).links) + [(0, 4)]), 5), "narrow")

    def test_a_square_with_a_tail_is_narrow(self):
        self.assertEqual(kind(made(5, list(ring(4).links) + [(0, 4)]), 2), "narrow")

    def test_two_near_cells_hang_together_over_others(self):
        # Cell 4 of the grid 3 by 3 has no mate for the cells above and below it: they hang together over the sides.
        self.assertEqual(kind(grid(3, 3), 4), "stout")

    def test_each_part_by_itself(self):
        web = side_by_side(line(1), ring(4), ring(5), line(2), full(4), ring(3), grid(2, 3))
        kinds = ["dot"] + ["stout"] * 4 + ["ring"] * 5 + ["narrow"] * 2 + ["stout"] * 4 + ["ring"] * 3 + ["stout"] * 6
        self.assertEqual([kind(web, x) for x in range(web.size)], kinds)
        self.assertEqual([is_stout(web, x) for x in range(web.size)], [name == "stout" for name in kinds])

    def test_at_the_limits(self):
        self.assertEqual(kind(crowded(), 0), slow_kind(crowded(), 0))
        self.assertEqual(kind(ring(40), 11), "ring")

    def test_no_cell(self):
        for x in (-1, 4, 10 ** 30, -10 ** 30):
            self.refuses(BadCell, x, kind, grid(2, 2), x)
            self.is_false(is_stout(grid(2, 2), x))

    def test_the_judge_bears_odd_things(self):
        for web in (grid(2, 2), line(1), full(5)):
            for thing in ODD_THINGS:
                self.is_false(is_stout(web, thing))
