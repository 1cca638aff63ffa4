from random import Random

from making import (
    ODD_THINGS, Case, crowded, full, grid, line, linked, random_steps, random_stones, ring, side_by_side, slow_mates,
    slow_stepped, some_webs, stout_webs,
)

from pairfloors.errors import BadSize, BadStep, BadStone, BadWalker
from pairfloors.walkers import is_smooth, stepped, steps_back, steps_right, walked, walker
from pairfloors.webs import Web

STONES = (-1, -1, 2, 3, 4, 5)
NO_STONES = (
    ((), BadSize, 0), ((-1, -1), BadSize, 2), ((2000,) * 7, BadSize, 7),
    ((-2, -1, 2, 3, 4, 5), BadStone, 0), ((-1, -1, 2, 1000, -2, 5), BadStone, 3), ((-1, 3, -1, 4, 5, 10 ** 30), BadStone, 5),
    ((0, 0, 0, 0, 0, -10 ** 30), BadStone, 5),
    ((0,) * 6, BadWalker, ()), ((0, -1, 2, 3, 4, 5), BadWalker, (1,)), ((0, -1, 2, 3, 4, -1), BadWalker, (1, 5)),
    ((-1, 1, -1, 3, 4, 5), BadWalker, (0, 2)), ((-1, -1, -1, 3, 4, 5), BadWalker, (0, 1, 2)), ((-1,) * 6, BadWalker, tuple(range(6))),
)
# Pairs of numbers that are no steps from STONES on the plan 2 by 3.
NO_STEPS = (
    (0, 1), (1, 0), (0, 0), (1, 1), (0, 2), (0, 4), (1, 3), (1, 5), (2, 5), (3, 4), (4, 1), (3, 0), (2, 1), (0, -1), (0, 6), (-1, 0),
    (-1, 5), (6, 5), (1, 10 ** 30), (-10 ** 30, 4), (10 ** 30, 10 ** 30), (-6, 3), (-5, 2), (0, -3), (1, -4),
)


def some_walks():
    """Webs with stones, steps chosen at random, and all stones on the way."""
    chance = Random(83)
    webs = [web for web in some_webs() if web.links][::4] + stout_webs()[::5] + [line(2), line(5), ring(7)]
    rows = []
    for web in webs:
        for many in (0, 1, 2, 25):
            stones = random_stones(web, chance, 1000)
            if any(slow_stepped(web, stones, (x, y)) for x in range(web.size) for y in range(web.size)):
                rows.append((web, *random_steps(web, stones, many, chance)))
    return rows


class Walker(Case):
    def test_pair(self):
        self.assertEqual(walker(grid(2, 3), STONES), (0, 1))
        self.assertEqual(walker(web=grid(2, 3), stones=(9, 9, -1, 0, 999, -1)), (2, 5))
        self.assertEqual(walker(line(2), (-1, -1)), (0, 1))
        self.assertEqual(walker(side_by_side(line(1), line(3)), (0, 0, -1, -1)), (2, 3))

    def test_each_pair_of_cells(self):
        for web in (grid(2, 3), full(4), side_by_side(line(2), ring(3))):
            for x in range(web.size):
                for y in range(x + 1, web.size):
                    stones = tuple(-1 if z in (x, y) else z for z in range(web.size))
                    if linked(web, x, y):
                        self.assertEqual(walker(web, stones), (x, y))
                    else:
                        self.refuses(BadWalker, (x, y), walker, web, stones)

    def test_errors(self):
        for stones, error, what in NO_STONES:
            self.refuses(error, what, walker, grid(2, 3), stones)
        self.refuses(BadWalker, (0,), walker, line(1), (-1,))
        self.refuses(BadWalker, (), walker, line(1), (0,))
        self.refuses(BadWalker, (0, 1), walker, Web(2, ()), (-1, -1))

    def test_at_the_limits(self):
        self.assertEqual(walker(crowded(), (-1,) + (999,) * 38 + (-1,)), (0, 39))


class Stepped(Case):
    def test_examples(self):
        self.assertEqual(stepped(grid(2, 3), STONES, (1, 2)), (2, -1, -1, 3, 4, 5))
        self.assertEqual(stepped(web=grid(2, 3), stones=STONES, step=(1, 4)), (4, -1, 2, 3, -1, 5))
        self.assertEqual(stepped(grid(2, 3), STONES, (0, 3)), (-1, 3, 2, -1, 4, 5))

    def test_by_the_document(self):
        chance = Random(89)
        for web in [web for web in some_webs() if web.links][::2]:
            stones = random_stones(web, chance)
            for step in [(stay, to) for stay in range(-1, web.size + 1) for to in range(-1, web.size + 1)]:
                behind = slow_stepped(web, stones, step)
                if behind is None:
                    self.refuses(BadStep, step, stepped, web, stones, step)
                else:
                    self.assertEqual(stepped(web, stones, step), behind)

    def test_errors_in_order(self):
        for step in NO_STEPS:
            self.refuses(BadStep, step, stepped, grid(2, 3), STONES, step)
        for stones, error, what in NO_STONES:
            for step in ((1, 2), (9, 9)):
                self.refuses(error, what, stepped, grid(2, 3), stones, step)


class Walked(Case):
    def test_by_the_document(self):
        for web, steps, way in some_walks():
            self.assertEqual(walked(web, way[0], steps), way[-1])
            self.assertIsInstance(walked(web, way[0], steps), tuple)
            self.is_true(steps_right(web, way[0], steps, way[-1]))

    def test_the_empty_steps(self):
        self.assertEqual(walked(grid(2, 3), STONES, ()), STONES)
        self.assertEqual(steps_back(grid(2, 3), STONES, ()), ())
        self.is_true(steps_right(grid(2, 3), STONES, (), STONES))
        self.is_false(steps_right(grid(2, 3), STONES, (), (-1, -1, 2, 3, 5, 4)))

    def test_equal_stones(self):
        self.assertEqual(walked(web=grid(2, 2), stones=(-1, -1, 7, 7), steps=((1, 3),)), (7, -1, 7, -1))

    def test_steps_back(self):
        self.assertEqual(steps_back(grid(2, 3), STONES, ((1, 2), (1, 4), (1, 0))), ((1, 4), (1, 2), (1, 0)))
        self.assertEqual(steps_back(web=grid(2, 3), stones=STONES, steps=((1, 2), (2, 5))), ((2, 1), (1, 0)))
        for web, steps, way in some_walks():
            back = steps_back(web, way[0], steps)
            self.assertIsInstance(back, tuple)
            self.assertEqual([stay for stay, _ in back], [stay for stay, _ in steps][::-1])
            self.assertEqual(walked(web, way[0], steps + back), way[0])
            self.assertEqual([walked(web, way[-1], back[:at]) for at in range(len(back) + 1)], way[::-1])
            self.assertEqual(steps_back(web, way[-1], back), steps)

    def test_errors_in_order(self):
        for call in (walked, steps_back):
            for step in NO_STEPS:
                self.refuses(BadStep, 0, call, grid(2, 3), STONES, (step,))
                self.refuses(BadStep, 0, call, grid(2, 3), STONES, (step, (1, 2), step))
                self.refuses(BadStep, 2, call, grid(2, 3), STONES, ((1, 2), (1, 0), step))
                self.refuses(BadStep, 2, call, grid(2, 3), STONES, ((1, 2), (1, 0), step, (9, 9)))
            self.refuses(BadStep, 1, call, grid(2, 3), STONES, ((1, 2), (1, 2)))
            self.refuses(BadStep, 1, call, grid(2, 3), STONES, ((1, 2), (0, 3)))
            for stones, error, what in NO_STONES:
                for steps in ((), ((1, 2),), ((9, 9),)):
                    self.refuses(error, what, call, grid(2, 3), stones, steps)

    def test_many_steps(self):
        steps = ((1, 2), (2, 5), (5, 4), (4, 3), (3, 0), (0, 1)) * 15000
        stones = STONES
        for step in steps[:12]:
            stones = slow_stepped(grid(2, 3), stones, step)
        self.assertEqual(walked(grid(2, 3), STONES, steps[:12]), stones)
        self.is_true(steps_right(grid(2, 3), STONES, steps, walked(grid(2, 3), STONES, steps)))
        self.refuses(BadStep, 90000, walked, grid(2, 3), STONES, steps + ((9, 9),))


class Smooth(Case):
    def test_example(self):
        self.is_true(is_smooth(grid(2, 3), STONES, (1, 4)))
        self.is_true(is_smooth(web=grid(2, 3), stones=STONES, step=(0, 3)))
        self.is_false(is_smooth(grid(2, 3), STONES, (1, 2)))

    def test_by_the_document(self):
        chance = Random(97)
        for web in [web for web in some_webs() if web.links][::2]:
            stones = random_stones(web, chance)
            bare = [x for x, stone in enumerate(stones) if stone == -1]
            for stay, to in [(stay, to) for stay in range(-2, web.size + 1) for to in range(-2, web.size + 1)]:
                right = slow_stepped(web, stones, (stay, to)) is not None
                right = right and len(slow_mates(web, stay, sum(bare) - stay, to)) > 0
                self.assertIs(is_smooth(web, stones, (stay, to)), right)

    def test_all_steps_in_full_webs_are_smooth(self):
        self.is_true(is_smooth(full(4), (-1, -1, 0, 0), (0, 2)))
        self.is_false(is_smooth(ring(3), (-1, -1, 0), (0, 2)))
        self.is_true(is_smooth(ring(4), (-1, -1, 0, 0), (0, 3)))
        self.is_false(is_smooth(ring(5), (-1, -1, 0, 0, 0), (0, 4)))

    def test_wrong_stones_and_steps(self):
        for step in NO_STEPS:
            self.is_false(is_smooth(grid(2, 3), STONES, step))
        for stones, _, _ in NO_STONES:
            for step in ((1, 4), (0, 3), (4, 5)):
                self.is_false(is_smooth(grid(2, 3), stones, step))
        for step in ((), (1,), (1, 4, 0), ((1, 4),), (1, "4"), ("1", 4), (1, None), "14", None, 14, (1, (4,))):
            self.is_false(is_smooth(grid(2, 3), STONES, step))

    def test_odd_things(self):
        for web in (grid(2, 3), line(1), full(5), crowded()):
            stones = (-1, -1) + (0,) * (web.size - 2)
            for thing in ODD_THINGS:
                self.is_false(is_smooth(web, thing, (1, 4)))
                self.is_false(is_smooth(web, thing, thing))
                self.is_false(is_smooth(web, stones, thing))
                self.is_false(is_smooth(web, stones, (thing, 2)) and thing not in (0, 1))
                self.is_false(is_smooth(web, stones, (1, thing)) and thing != 40)
                self.is_false(is_smooth(web, stones[:-1] + (thing,), (thing, thing)))


class StepsRight(Case):
    def test_right_and_wrong(self):
        web, steps, goal = grid(2, 3), ((1, 2), (1, 4), (1, 0)), (-1, -1, 4, 3, 2, 5)
        self.is_true(steps_right(web=web, stones=STONES, steps=steps, goal=goal))
        self.is_false(steps_right(web, STONES, steps, STONES))
        self.is_false(steps_right(web, STONES, steps[:2], goal))
        self.is_false(steps_right(web, STONES, steps + ((0, 3),), goal))
        self.is_false(steps_right(web, goal, steps, goal))
        self.is_true(steps_right(web, goal, steps, STONES))
        # The steps before the one that is none have led to the goal already.
        for step in NO_STEPS:
            self.is_false(steps_right(web, STONES, steps + (step,), goal))
            self.is_false(steps_right(web, STONES, (step,) + steps, goal))

    def test_stones_and_goals_that_are_none(self):
        for stones, _, _ in NO_STONES:
            self.is_false(steps_right(grid(2, 3), stones, (), stones))
            self.is_false(steps_right(grid(2, 3), STONES, (), stones))
            self.is_false(steps_right(grid(2, 3), stones, ((1, 2),), STONES))

    def test_odd_things(self):
        for web in (grid(2, 3), full(4), crowded()):
            stones = (-1, -1) + (0,) * (web.size - 2)
            for thing in ODD_THINGS:
                self.is_false(steps_right(web, thing, (), stones))
                self.is_false(steps_right(web, stones, (), thing))
                self.is_false(steps_right(web, thing, (), thing))
                self.is_false(steps_right(web, stones, thing, stones) and thing != ())
                self.is_false(steps_right(web, stones, (thing,), stones))
                self.is_false(steps_right(web, stones, ((9, 9), thing), stones))
                self.is_false(steps_right(web, stones, ((1, thing),), stones))
                self.is_false(steps_right(web, stones, ((thing, 2),), stones))
                self.is_false(steps_right(web, thing, thing, thing))
