from random import Random

from making import Case, made, ring

from pairfloors.errors import BadCell, BadCount, BadHole, BadSize, BadSpot, BadWall
from pairfloors.kinds import kind
from pairfloors.parts import parts
from pairfloors.planwebs import cell_at, spot_of, web_of
from pairfloors.sides import sides

BAD_PLANS = (
    (BadCount, 0, (0, 1, 0, (), ())),
    (BadCount, 9, (1, 9, 0, (), ())),
    (BadCount, 4, (3, 3, 4, (), ())),
    (BadCount, 3, (2, 3, 3, (), ())),
    (BadHole, 1, (2, 2, 0, ((0, 1), (0, 1)), ())),
    (BadSize, 64, (8, 8, 0, (), ())),
    (BadWall, 0, (2, 2, 0, (), (((0, 0), (1, 1)),))),
)


def beside(plan):
    """All pairs of places that are beside one another, the lesser one first, ascending."""
    rows, cols, around = plan[:3]
    pairs = set()
    for r in range(rows):
        for c in range(cols):
            if c + 1 < cols or around in (1, 3):
                pairs.add(tuple(sorted([(r, c), (r, (c + 1) % cols)])))
            if r + 1 < rows or around in (2, 3):
                pairs.add(tuple(sorted([(r, c), ((r + 1) % rows, c)])))
    return sorted(pairs)


def some_plans():
    chance = Random(11)
    shapes = [(r, c, a) for r in range(1, 6) for c in range(1, 6) for a in range(4)]
    shapes = [(r, c, a) for r, c, a in shapes if (a not in (1, 3) or c > 2) and (a not in (2, 3) or r > 2)]
    plans = [shape + ((), ()) for shape in shapes + [(8, 5, 3), (5, 8, 1), (1, 8, 1), (8, 1, 2)]]
    for shape in shapes * 2 + [(8, 8, 3), (8, 8, 0), (7, 6, 3)]:
        places = [(r, c) for r in range(shape[0]) for c in range(shape[1])]
        least = max(0, len(places) - 40)
        holes = tuple(sorted(chance.sample(places, chance.randint(least, max(least, len(places) - 1)))))
        free = [pair for pair in beside(shape) if pair[0] not in holes and pair[1] not in holes]
        plans.append(shape + (holes, tuple(sorted(chance.sample(free, chance.randint(0, len(free)))))))
    return plans


class PlanWebs(Case):
    def test_by_the_document(self):
        for plan in some_plans():
            rows, cols, around, holes, walls = plan
            spots = [(r, c) for r in range(rows) for c in range(cols) if (r, c) not in holes]
            pairs = [pair for pair in beside(plan) if pair[0] in spots and pair[1] in spots and pair not in walls]
            self.is_web(web_of(plan), len(spots), [(spots.index(p), spots.index(q)) for p, q in pairs])
            for r in range(rows):
                for c in range(cols):
                    self.assertEqual(cell_at(plan, r, c), spots.index((r, c)) if (r, c) in spots else -1)
            for x, spot in enumerate(spots):
                self.assertEqual(spot_of(plan, x), spot)

    def test_two_by_three(self):
        plan = (2, 3, 0, (), ())
        self.is_web(web_of(plan=plan), 6, ((0, 1), (0, 3), (1, 2), (1, 4), (2, 5), (3, 4), (4, 5)))
        self.assertEqual(cell_at(plan=plan, r=1, c=0), 3)
        self.assertEqual(spot_of(plan=plan, x=5), (1, 2))
        self.assertEqual(sides(web_of(plan)), (0, 1, 0, 1, 0, 1))

    def test_holes_and_walls(self):
        plan = (2, 2, 0, ((0, 1),), ())
        self.is_web(web_of(plan), 3, ((0, 1), (1, 2)))
        self.assertEqual([cell_at(plan, 0, 0), cell_at(plan, 0, 1), cell_at(plan, 1, 0)], [0, -1, 1])
        self.assertEqual(spot_of(plan, 1), (1, 0))
        self.is_web(web_of((2, 2, 0, ((0, 1),), (((0, 0), (1, 0)),))), 3, ((1, 2),))

    def test_seams(self):
        self.is_web(web_of((1, 3, 1, (), ())), 3, ((0, 1), (0, 2), (1, 2)))
        self.is_web(web_of((3, 1, 2, (), ())), 3, ((0, 1), (0, 2), (1, 2)))
        self.is_web(web_of((1, 3, 0, (), ())), 3, ((0, 1), (1, 2)))
        self.is_web(web_of((1, 4, 1, (), (((0, 0), (0, 3)),))), 4, ((0, 1), (1, 2), (2, 3)))
        self.is_web(web_of((1, 4, 1, ((0, 3),), ())), 3, ((0, 1), (1, 2)))
        self.is_web(web_of((1, 4, 1, ((0, 1),), ())), 3, ((0, 2), (1, 2)))
        self.is_web(web_of((4, 1, 2, ((0, 0),), (((1, 0), (2, 0)),))), 3, ((1, 2),))
        self.is_web(web_of((4, 1, 2, (), (((0, 0), (3, 0)),))), 4, ((0, 1), (1, 2), (2, 3)))

    def test_one_cell_and_forty(self):
        self.is_web(web_of((1, 1, 0, (), ())), 1, ())
        self.is_web(web_of((2, 1, 0, ((0, 0),), ())), 1, ())
        web = web_of((5, 8, 3, (), ()))
        self.assertEqual((web.size, len(web.links)), (40, 80))
        self.assertEqual(cell_at((8, 5, 0, (), ()), 7, 4), 39)

    def test_no_place(self):
        plan = (2, 3, 0, ((0, 0),), ())
        for r, c in ((-1, 0), (0, -1), (2, 0), (0, 3), (10 ** 30, 0), (0, -10 ** 30), (9, 9)):
            self.refuses(BadSpot, (r, c), cell_at, plan, r, c)
        self.refuses(BadSpot, (0, 3), cell_at, (3, 3, 3, (), ()), 0, 3)

    def test_no_cell(self):
        for bad in (-1, 5, 6, 10 ** 30, -10 ** 30):
            self.refuses(BadCell, bad, spot_of, (2, 3, 0, ((0, 0),), ()), bad)

    def test_the_plan_is_checked_first(self):
        for error, what, plan in BAD_PLANS:
            self.refuses(error, what, web_of, plan)
            self.refuses(error, what, cell_at, plan, 0, 0)
            self.refuses(error, what, cell_at, plan, -1, 99)
            self.refuses(error, what, spot_of, plan, 0)
            self.refuses(error, what, spot_of, plan, -1)


class WhatHolds(Case):
    def test_plain_plans_are_stout_and_their_sides_are_told(self):
        for rows in range(2, 9):
            for cols in range(2, 9):
                for around in range(4):
                    row, column = around in (1, 3), around in (2, 3)
                    if rows * cols > 40 or (row and cols < 3) or (column and rows < 3):
                        continue
                    web = web_of((rows, cols, around, (), ()))
                    self.assertEqual((len(parts(web)), kind(web, 0)), (1, "stout"))
                    two_sided = (cols % 2 == 0 or not row) and (rows % 2 == 0 or not column)
                    self.assertIs(-1 not in sides(web), two_sided, (rows, cols, around))

    def test_a_closed_row_is_a_round(self):
        for cols in range(3, 9):
            for plan in ((1, cols, 1, (), ()), (cols, 1, 2, (), ())):
                self.is_web(web_of(plan), cols, ring(cols).links)
                self.assertEqual(kind(web_of(plan), 0), "stout" if cols == 4 else "ring")

    def test_a_wall_may_make_it_narrow(self):
        plan = (2, 3, 0, (), (((0, 0), (0, 1)),))
        self.assertEqual(kind(web_of(plan), 0), "narrow")
        self.is_web(web_of(plan), 6, made(6, [(0, 3), (1, 2), (1, 4), (2, 5), (3, 4), (4, 5)]).links)
