from random import Random

from making import Case, crowded, full, grid, line, near, random_stones, ring, some_webs, stout_webs

from pairfloors.errors import BadSize, BadStep, BadStone, BadWalker
from pairfloors.turns import turn
from pairfloors.walkers import steps_back, steps_right, walked

STONES = (-1, -1, 2, 3, 4, 5)


class Turns(Case):
    def test_example(self):
        steps = turn(grid(2, 3), STONES, 1, 2, 4)
        self.assertEqual(steps, ((1, 2), (1, 4), (1, 0)))
        self.assertEqual(walked(grid(2, 3), STONES, steps), (-1, -1, 4, 3, 2, 5))
        self.assertEqual(steps_back(grid(2, 3), STONES, steps), ((1, 4), (1, 2), (1, 0)))
        self.assertEqual(turn(web=grid(2, 3), stones=STONES, stay=1, u=4, v=2), ((1, 4), (1, 2), (1, 0)))

    def test_by_the_document(self):
        chance = Random(101)
        for web in [web for web in some_webs() if web.links][::3] + stout_webs()[::6]:
            stones = random_stones(web, chance)
            bare = [x for x, stone in enumerate(stones) if stone == -1]
            cells = range(-1, web.size + 1)
            for stay in cells:
                free = [] if stay not in bare else [x for x in near(web, stay) if x not in bare]
                for u, v in [(u, v) for u in cells for v in cells]:
                    if u != v and u in free and v in free:
                        self.check(web, stones, stay, u, v, sum(bare) - stay)
                    else:
                        self.refuses(BadStep, (u, v), turn, web, stones, stay, u, v)

    def check(self, web, stones, stay, u, v, x):
        steps = turn(web, stones, stay, u, v)
        self.assertEqual(steps, ((stay, u), (stay, v), (stay, x)))
        goal = list(stones)
        goal[u], goal[v] = goal[v], goal[u]
        self.is_true(steps_right(web, stones, steps, tuple(goal)))

    def test_equal_stones(self):
        self.assertEqual(turn(full(4), (-1, 7, 7, -1), 3, 1, 2), ((3, 1), (3, 2), (3, 0)))
        self.assertEqual(walked(full(4), (-1, 7, 7, -1), ((3, 1), (3, 2), (3, 0))), (-1, 7, 7, -1))

    def test_any_kind_of_part(self):
        star = crowded(5, 4)
        self.assertEqual(turn(star, (-1, 1, 2, -1, 4), 0, 4, 1), ((0, 4), (0, 1), (0, 3)))

    def test_no_cells(self):
        for bad in (-1, 6, 10 ** 30, -10 ** 30):
            self.refuses(BadStep, (2, 4), turn, grid(2, 3), STONES, bad, 2, 4)
            self.refuses(BadStep, (bad, 4), turn, grid(2, 3), STONES, 1, bad, 4)
            self.refuses(BadStep, (2, bad), turn, grid(2, 3), STONES, 1, 2, bad)
            self.refuses(BadStep, (bad, bad), turn, grid(2, 3), STONES, bad, bad, bad)

    def test_wrong_cells(self):
        for stay, u, v in ((1, 2, 2), (1, 0, 2), (1, 2, 0), (1, 2, 3), (1, 2, 5), (0, 3, 1), (0, 3, 4), (2, 5, 1), (4, 3, 5), (1, 1, 2)):
            self.refuses(BadStep, (u, v), turn, grid(2, 3), STONES, stay, u, v)
        self.refuses(BadStep, (2, 1), turn, ring(3), (-1, -1, 0), 0, 2, 1)

    def test_the_stones_are_checked_first(self):
        web = grid(2, 3)
        self.refuses(BadSize, 2, turn, web, (-1, -1), 9, 9, 9)
        self.refuses(BadStone, 4, turn, web, (-1, -1, 0, 0, 1000, -2), 9, 9, 9)
        self.refuses(BadWalker, (0, 2), turn, web, (-1, 0, -1, 0, 0, 0), 0, 1, 3)
        self.refuses(BadWalker, (), turn, line(1), (0,), 0, 0, 0)
