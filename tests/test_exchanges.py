from itertools import permutations
from random import Random

from making import (
    Case, collar, crowded, full, grid, line, made, random_steps, random_stones, renamed, ring, side_by_side, slow_sides,
    slow_stepped, slow_steps, stout_webs, two_rows,
)

from pairfloors.errors import BadCell, BadPair, BadSize, BadStone, BadWalker, NotStout, NoWay, TooMany
from pairfloors.exchanges import arranged, exchanged
from pairfloors.walkers import steps_right

STONES = (-1, -1, 2, 3, 4, 5)


def swapped(stones, u, v):
    cells = list(stones)
    cells[u], cells[v] = cells[v], cells[u]
    return tuple(cells)


def reached(web, stones):
    """All stones to which steps lead."""
    found = {stones}
    queue = [stones]
    for here in queue:
        for step in slow_steps(web, here):
            there = slow_stepped(web, here, step)
            if there not in found:
                found.add(there)
                queue.append(there)
    return found


def shuffled(web, stones, shades, chance):
    """Stones to which steps should lead: the walker elsewhere, the stones in disorder on their sides."""
    bare = chance.choice(web.links)
    goal = [-1 if x in bare else None for x in range(web.size)]
    for side in sorted(set(shades)):
        pool = [stones[x] for x in range(web.size) if shades[x] == side and stones[x] >= 0]
        chance.shuffle(pool)
        for x in range(web.size):
            if shades[x] == side and goal[x] is None:
                goal[x] = pool.pop()
    return tuple(goal)


class Exchanged(Case):
    def right(self, web, stones, u, v):
        steps = exchanged(web, stones, u, v)
        self.is_true(steps_right(web, stones, steps, swapped(stones, u, v)))
        # Each stone counts as one of its own, also where numbers are equal.
        own = tuple(-1 if stone == -1 else x for x, stone in enumerate(stones))
        self.is_true(steps_right(web, own, steps, swapped(own, u, v)))
        self.assertLessEqual(len(steps), 2 * len(web.links) * web.size ** 2)

    def test_example(self):
        self.right(grid(2, 3), STONES, 2, 4)
        self.refuses(NoWay, 0, exchanged, grid(2, 3), STONES, 2, 3)
        self.is_true(steps_right(grid(2, 3), STONES, exchanged(v=4, u=2, stones=STONES, web=grid(2, 3)), (-1, -1, 4, 3, 2, 5)))

    def test_all_pairs_of_many_webs(self):
        chance = Random(103)
        for web in stout_webs():
            shades, stones = slow_sides(web), random_stones(web, chance, 3)
            free = [x for x in range(web.size) if stones[x] >= 0]
            pairs = [(u, v) for u in free for v in free if u != v]
            for u, v in chance.sample(pairs, min(len(pairs), 20)):
                if shades[u] == shades[v]:
                    self.right(web, stones, u, v)
                else:
                    self.refuses(NoWay, 0, exchanged, web, stones, u, v)

    def test_equal_stones(self):
        self.right(grid(2, 3), (-1, -1, 7, 7, 7, 7), 2, 4)
        self.refuses(NoWay, 0, exchanged, grid(2, 3), (-1, -1, 7, 7, 7, 7), 2, 3)

    def test_webs_of_four_cells(self):
        for stones in set(permutations((-1, -1, 3, 4))):
            free = [x for x in range(4) if stones[x] >= 0]
            self.right(full(4), stones, *free)
            if sorted(stones[x] for x in (0, 2)) != [-1, -1] and sorted(stones[x] for x in (1, 3)) != [-1, -1]:
                self.refuses(NoWay, 0, exchanged, ring(4), stones, *free)

    def test_errors_in_order(self):
        web = grid(2, 3)
        self.refuses(BadSize, 2, exchanged, web, (-1, -1), 9, 9)
        self.refuses(BadStone, 2, exchanged, web, (-1, 3, 1000, -1, 0, 0), 9, 9)
        self.refuses(BadWalker, (0, 2), exchanged, web, (-1, 3, -1, 0, 0, 0), 9, 9)
        for x in (-1, 6, 10 ** 30, -10 ** 30):
            self.refuses(BadCell, x, exchanged, web, STONES, x, 77)
            self.refuses(BadCell, x, exchanged, web, STONES, x, x)
            self.refuses(BadCell, x, exchanged, web, STONES, 2, x)
            self.refuses(BadCell, x, exchanged, web, STONES, 0, x)
        for u, v in ((2, 2), (0, 2), (2, 1), (0, 1), (1, 0), (0, 0), (1, 3)):
            self.refuses(BadPair, (u, v), exchanged, web, STONES, u, v)

    def test_webs_that_are_not_searched(self):
        for web, error, what in not_searched():
            stones = (-1, -1) + tuple(range(web.size - 2))
            self.refuses(error, what, exchanged, web, stones, 2, 3)
            self.refuses(error, what, exchanged, web, stones, 3, 2)
            self.refuses(BadPair, (2, 2), exchanged, web, stones, 2, 2)
            self.refuses(BadCell, 40, exchanged, web, stones, 2, 40)


class Arranged(Case):
    def right(self, web, stones, goal):
        steps = arranged(web, stones, goal)
        self.is_true(steps_right(web, stones, steps, goal))
        self.assertLessEqual(len(steps), 2 * len(web.links) * web.size ** 3)

    def test_examples(self):
        self.right(grid(2, 3), STONES, (-1, -1, 4, 3, 2, 5))
        self.right(grid(2, 3), STONES, (2, -1, -1, 3, 4, 5))
        steps = arranged(goal=(-1, -1, 4, 3, 2, 5), stones=STONES, web=grid(2, 3))
        self.is_true(steps_right(grid(2, 3), STONES, steps, (-1, -1, 4, 3, 2, 5)))
        self.refuses(NoWay, 0, arranged, grid(2, 3), STONES, (-1, -1, 3, 2, 4, 5))

    def test_many_webs(self):
        chance = Random(107)
        for web in stout_webs():
            shades = slow_sides(web)
            for limit in (1, 3, 1000):
                stones = random_stones(web, chance, limit)
                self.right(web, stones, shuffled(web, stones, shades, chance))
                self.right(web, stones, random_steps(web, stones, 30, chance)[1][-1])

    def test_the_goal_is_the_stones(self):
        for web in (ring(4), full(4), grid(3, 4)):
            stones = random_stones(web, Random(web.size), 5)
            self.right(web, stones, stones)

    def test_just_the_stones_to_which_steps_lead(self):
        for web, stones in (
            (ring(4), (-1, -1, 1, 2)), (full(4), (-1, 0, -1, 1)), (grid(2, 3), (-1, -1, 0, 1, 0, 2)),
            (collar(3), (-1, -1, 0, 0, 1, 1)), (two_rows(2, 3), (-1, 0, -1, 1, 2)), (full(5), (-1, 3, -1, 3, 4)),
        ):
            led = reached(web, stones)
            for goal in set(permutations(stones)):
                bare = tuple(x for x in range(web.size) if goal[x] == -1)
                if bare not in web.links:
                    self.refuses(BadWalker, bare, arranged, web, stones, goal)
                elif goal in led:
                    self.right(web, stones, goal)
                else:
                    self.refuses(NoWay, 0, arranged, web, stones, goal)

    def test_no_way(self):
        for goal in ((-1, -1, 2, 3, 4, 6), (-1, -1, 3, 2, 4, 5), (-1, 2, 3, -1, 4, 5), (-1, -1, 2, 3, 4, 4)):
            self.refuses(NoWay, 0, arranged, grid(2, 3), STONES, goal)
        self.refuses(NoWay, 0, arranged, full(4), (-1, -1, 0, 0), (-1, -1, 0, 1))
        self.refuses(NoWay, 0, arranged, full(4), (-1, -1, 0, 1), (1, -1, 1, -1))
        self.right(full(4), (-1, -1, 0, 1), (1, -1, 0, -1))

    def test_large_webs(self):
        chance = Random(109)
        for web in (crowded(12, 24), grid(3, 4), renamed(two_rows(2, 10), 1), renamed(two_rows(4, 6), 2), collar(5),
                    renamed(two_rows(8, 3), 3)):
            shades = slow_sides(web)
            for _ in range(5):
                bare = chance.choice(web.links)
                stones = tuple(-1 if x in bare else x for x in range(web.size))
                self.right(web, stones, shuffled(web, stones, shades, chance))

    def test_errors_in_order(self):
        web = grid(2, 3)
        for stones, error, what in (((-1, -1), BadSize, 2), ((-1, -1, 0, 1000, -2, 0), BadStone, 3), ((0,) * 6, BadWalker, ()),
                                    ((-1, 0, 0, 0, -1, 0), BadWalker, (0, 4))):
            self.refuses(error, what, arranged, web, stones, (0,))
            self.refuses(error, what, arranged, web, STONES, stones)
        self.refuses(BadSize, 7, arranged, web, STONES + (0,), (0, 0))

    def test_webs_that_are_not_searched(self):
        for web, error, what in not_searched():
            stones = (-1, -1) + tuple(range(web.size - 2))
            self.refuses(error, what, arranged, web, stones, stones)
            self.refuses(error, what, arranged, web, stones, (-1, -1) + (0,) * (web.size - 2))
            self.refuses(BadWalker, (0,), arranged, web, stones, (-1,) + (0,) * (web.size - 1))
            self.refuses(BadSize, 2, arranged, web, stones, (-1, -1))
            self.refuses(BadStone, web.size - 1, arranged, web, stones, stones[:-1] + (1000,))


def not_searched():
    """Webs in which 0 and 1 are linked, with the error that each of them is refused by, the first that fits."""
    return (
        (grid(2, 7), BadSize, 14), (crowded(13, 78), BadSize, 13), (line(40), BadSize, 40), (crowded(), BadSize, 40),
        (crowded(12, 25), TooMany, 25), (full(8), TooMany, 28), (crowded(8, 25), TooMany, 25),
        (crowded(12, 11), NotStout, 0), (line(4), NotStout, 0), (ring(5), NotStout, 0), (ring(12), NotStout, 0),
        (side_by_side(ring(4), ring(4)), NotStout, 0), (side_by_side(full(4), line(1)), NotStout, 0),
        (side_by_side(line(2), ring(4)), NotStout, 0), (made(5, list(ring(4).links) + [(0, 4)]), NotStout, 0),
    )
