from making import NO_PAIRS, Case

from pairfloors.errors import BadCount, BadHole, BadSize, BadWall
from pairfloors.plans import checked_plan

RIGHT = (
    (1, 1, 0, (), ()),
    (8, 5, 0, (), ()),
    (5, 8, 3, (), ()),
    (2, 2, 0, (), ()),
    (1, 3, 1, (), ()),
    (3, 1, 2, (), ()),
    (3, 3, 3, (), ()),
    (2, 3, 1, ((0, 0), (1, 2)), ()),
    (8, 8, 0, tuple((r, c) for r in range(3) for c in range(8)), ()),
    (2, 2, 0, ((0, 0), (0, 1), (1, 0)), ()),
    (2, 2, 0, (), (((0, 0), (0, 1)), ((0, 0), (1, 0)), ((0, 1), (1, 1)), ((1, 0), (1, 1)))),
    (2, 3, 1, (), (((0, 0), (0, 1)), ((0, 0), (0, 2)))),
    (3, 2, 2, (), (((0, 0), (1, 0)), ((0, 0), (2, 0)), ((0, 1), (2, 1)))),
    (3, 3, 3, ((1, 1),), (((0, 0), (0, 2)), ((0, 0), (2, 0)))),
    (4, 5, 3, (), (((0, 0), (0, 4)), ((0, 3), (3, 3)))),
)


class Plans(Case):
    def test_right_ones_are_returned(self):
        for plan in RIGHT:
            self.assertIs(checked_plan(plan), plan)
            self.assertIs(checked_plan(plan=plan), plan)

    def test_counts(self):
        for bad in (0, -1, 9, 10 ** 30, -10 ** 30):
            self.refuses(BadCount, bad, checked_plan, (bad, 2, 0, (), ()))
            self.refuses(BadCount, bad, checked_plan, (2, bad, 0, (), ()))
        for bad in (-1, 4, 10 ** 30, -10 ** 30):
            self.refuses(BadCount, bad, checked_plan, (3, 3, bad, (), ()))

    def test_closed_rows_and_columns_need_three_places(self):
        for short in (1, 2):
            self.refuses(BadCount, 1, checked_plan, (3, short, 1, (), ()))
            self.refuses(BadCount, 3, checked_plan, (3, short, 3, (), ()))
            self.refuses(BadCount, 2, checked_plan, (short, 3, 2, (), ()))
            self.refuses(BadCount, 3, checked_plan, (short, 3, 3, (), ()))
            self.refuses(BadCount, 1, checked_plan, (short, short, 1, (), ()))
            self.assertTrue(checked_plan((short, 3, 1, (), ())))
            self.assertTrue(checked_plan((3, short, 2, (), ())))

    def test_holes(self):
        for bad in ((-1, 0), (0, -1), (2, 0), (0, 3), (10 ** 30, 0), (0, -10 ** 30)):
            self.refuses(BadHole, 0, checked_plan, (2, 3, 0, (bad,), ()))
            self.refuses(BadHole, 1, checked_plan, (2, 3, 0, ((0, 0), bad), ()))
        self.refuses(BadHole, 1, checked_plan, (2, 3, 0, ((0, 1), (0, 1)), ()))
        self.refuses(BadHole, 1, checked_plan, (2, 3, 0, ((0, 1), (0, 0)), ()))
        self.refuses(BadHole, 2, checked_plan, (2, 3, 0, ((0, 0), (1, 0), (0, 1)), ()))
        self.refuses(BadHole, 1, checked_plan, (2, 3, 0, ((0, 1), (0, 0), (5, 5)), ()))
        self.refuses(BadHole, 1, checked_plan, (2, 3, 0, ((0, 1), (5, 5), (0, 0)), ()))

    def test_how_many_places_are_left(self):
        self.refuses(BadSize, 0, checked_plan, (1, 1, 0, ((0, 0),), ()))
        self.refuses(BadSize, 0, checked_plan, (2, 2, 0, ((0, 0), (0, 1), (1, 0), (1, 1)), ()))
        self.refuses(BadSize, 64, checked_plan, (8, 8, 0, (), ()))
        self.refuses(BadSize, 42, checked_plan, (6, 7, 3, (), ()))
        self.refuses(BadSize, 41, checked_plan, (6, 7, 0, ((2, 3),), ()))
        self.assertTrue(checked_plan((6, 7, 0, ((2, 3), (4, 4)), ())))

    def test_walls(self):
        for bad in (
            ((0, 0), (0, 0)), ((0, 1), (0, 0)), ((1, 0), (0, 0)), ((0, 0), (1, 1)), ((0, 1), (1, 0)), ((0, 0), (0, 2)),
            ((0, 0), (2, 0)), ((0, 2), (0, 3)), ((2, 0), (3, 0)), ((-1, 0), (0, 0)), ((0, -1), (0, 0)), ((0, 2), (1, 0)),
            ((0, 0), (0, 10 ** 30)), ((1, 1), (1, 2)), ((1, 0), (1, 1)), ((0, 1), (1, 1)), ((1, 1), (2, 1)),
            ((0, 0), (2, 2)),
        ):
            self.refuses(BadWall, 0, checked_plan, (3, 3, 0, ((1, 1),), (bad,)))
            self.refuses(BadWall, 1, checked_plan, (3, 3, 0, ((1, 1),), (((0, 0), (0, 1)), bad)))

    def test_walls_over_seams_only_where_they_are_closed(self):
        row, column = ((1, 0), (1, 3)), ((0, 2), (3, 2))
        for around, right in ((0, ()), (1, (row,)), (2, (column,)), (3, (column, row))):
            for border in (row, column):
                if border in right:
                    self.assertTrue(checked_plan((4, 4, around, (), (border,))))
                else:
                    self.refuses(BadWall, 0, checked_plan, (4, 4, around, (), (border,)))
            self.assertTrue(checked_plan((4, 4, around, (), right)))
        for bad in (((0, 0), (0, 2)), ((0, 1), (0, 3)), ((0, 0), (2, 0)), ((1, 0), (3, 0)), ((0, 3), (1, 0)),
                    ((0, 0), (3, 3)), ((0, 3), (0, 0)), ((3, 0), (0, 0))):
            self.refuses(BadWall, 0, checked_plan, (4, 4, 3, (), (bad,)))

    def test_seams_depend_on_their_own_length(self):
        self.assertTrue(checked_plan((3, 5, 3, (), (((0, 0), (0, 4)), ((0, 0), (2, 0))))))
        self.refuses(BadWall, 0, checked_plan, (3, 5, 3, (), (((0, 0), (0, 2)),)))
        self.refuses(BadWall, 0, checked_plan, (5, 3, 3, (), (((0, 0), (2, 0)),)))

    def test_walls_that_do_not_ascend(self):
        low, high = ((0, 0), (0, 1)), ((0, 0), (1, 0))
        self.refuses(BadWall, 1, checked_plan, (2, 2, 0, (), (low, low)))
        self.refuses(BadWall, 1, checked_plan, (2, 2, 0, (), (high, low)))
        self.refuses(BadWall, 1, checked_plan, (2, 2, 0, (), (high, low, ((0, 0), (5, 5)))))
        self.refuses(BadWall, 1, checked_plan, (2, 2, 0, (), (low, ((0, 0), (5, 5)), low)))

    def test_holes_and_walls_that_are_no_pairs(self):
        for bad in NO_PAIRS:
            self.refuses(BadHole, 1, checked_plan, (2, 2, 0, ((0, 0), bad), ()))
            self.refuses(BadWall, 0, checked_plan, (2, 2, 0, (), (bad,)))
            self.refuses(BadWall, 1, checked_plan, (2, 2, 0, (), (((0, 0), (0, 1)), ((0, 0), bad))))
            self.refuses(BadWall, 0, checked_plan, (2, 2, 0, (), ((bad, (0, 1)),)))

    def test_no_wall_at_a_hole(self):
        self.refuses(BadWall, 0, checked_plan, (2, 2, 0, ((0, 0),), (((0, 0), (0, 1)),)))
        self.refuses(BadWall, 0, checked_plan, (2, 2, 0, ((0, 1),), (((0, 0), (0, 1)),)))
        self.refuses(BadWall, 0, checked_plan, (1, 3, 1, ((0, 2),), (((0, 0), (0, 2)),)))

    def test_order_of_errors(self):
        holes, walls = ((9, 9),), (((9, 9), (9, 9)),)
        self.refuses(BadCount, 0, checked_plan, (0, 9, 7, holes, walls))
        self.refuses(BadCount, 9, checked_plan, (8, 9, 7, holes, walls))
        self.refuses(BadCount, 7, checked_plan, (8, 8, 7, holes, walls))
        self.refuses(BadCount, 3, checked_plan, (8, 2, 3, holes, walls))
        self.refuses(BadHole, 0, checked_plan, (8, 8, 3, holes, walls))
        self.refuses(BadSize, 64, checked_plan, (8, 8, 3, (), walls))
        self.refuses(BadWall, 0, checked_plan, (8, 5, 3, (), walls))
        self.refuses(BadSize, 0, checked_plan, (1, 1, 0, ((0, 0),), walls))
