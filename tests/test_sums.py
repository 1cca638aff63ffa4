from random import Random

from making import (
    Case, collar, crowded, full, grid, line, linked, made, random_floor, random_run, renamed, ring, side_by_side, slow_odd, slow_parts,
    slow_sides, slow_surplus, spread_sides, stout_webs, two_rows,
)

from pairfloors.errors import BadCoat, BadCount, BadDoor, BadSize, NotStout
from pairfloors.floors import checked_floor
from pairfloors.joined import joined
from pairfloors.kinds import kind
from pairfloors.parts import part_web
from pairfloors.sums import split, sum_answer
from pairfloors.webs import Web
from pairfloors.worlds import World


def any_doors(one, two, chance):
    """Doors at a link of the one web and a link of the other, taken in any direction and order."""
    a, b = chance.sample(chance.choice(one.links), 2)
    c, d = chance.sample(chance.choice(two.links), 2)
    return ((a, c), (b, d))


def slow_sum(one, two, doors, first, second):
    """The surplus or the odd coats on the joined web, whose sides are told from its links alone, however large it is."""
    links = list(one.web.links) + [(one.web.size + a, one.web.size + b) for a, b in two.web.links]
    links += [(a, one.web.size + b) for a, b in doors]
    floor = first + second
    cells = tuple(range(len(floor)))
    shades = spread_sides(SimpleLinks(tuple(links)), cells)
    if shades[0] == -1:
        return tuple(c for c in range(one.coats) if floor.count(c) % 2)
    return tuple(sum(1 - 2 * shades[x] for x in cells if floor[x] == c) for c in range(one.coats))


class SimpleLinks:
    """What is a web but for its size."""

    def __init__(self, links):
        self.links = links


class Split(Case):
    def test_examples(self):
        self.assertEqual(split(World(grid(2, 2), 3), (0, 1, 2, 0)), ((0, 1, 2, 0),))
        web = made(6, [(0, 3), (3, 5), (1, 4)])
        self.assertEqual(split(world=World(web, 6), floor=(0, 1, 2, 3, 4, 5)), ((0, 3, 5), (1, 4), (2,)))
        self.assertEqual(split(World(Web(3, ()), 2), (0, 1, 0)), ((0,), (1,), (0,)))

    def test_each_is_a_floor_of_its_part(self):
        chance = Random(103)
        for web in (side_by_side(full(4), line(1), ring(5), line(3)), renamed(side_by_side(ring(4), ring(6), ring(3), line(1)), 1), crowded(), line(40)):
            for coats in (2, 6):
                world = World(web, coats)
                floor = random_floor(world, chance)
                pieces = split(world, floor)
                self.assertEqual(len(pieces), len(slow_parts(web)))
                for part, piece in zip(slow_parts(web), pieces):
                    self.assertEqual(piece, tuple(floor[x] for x in part))
                    self.assertEqual(checked_floor(World(part_web(web, part[0]), coats), piece), piece)

    def test_errors_in_order(self):
        world = World(side_by_side(line(2), line(2)), 2)
        self.refuses(BadSize, 3, split, world, (9, 9, 9))
        self.refuses(BadCoat, 1, split, world, (0, 2, 0, -1))


class SumAnswer(Case):
    def test_two_sides(self):
        # Two squares of which cells of unlike sides, then of like sides, are linked.
        world = World(grid(2, 2), 3)
        first, second = (0, 1, 2, 0), (1, 2, 2, 1)
        self.assertEqual(sum_answer(world, world, ((0, 1), (1, 0)), first, second), (2, 1, -3))
        self.assertEqual(sum_answer(world, world, ((0, 0), (1, 1)), first, second), (2, -3, 1))
        self.assertEqual(sum_answer(one=world, two=world, doors=((1, 1), (0, 0)), first=first, second=second), (2, -3, 1))

    def test_one_side(self):
        square, knot = World(grid(2, 2), 4), World(full(4), 4)
        self.assertEqual(sum_answer(square, knot, ((0, 0), (1, 1)), (0, 0, 1, 2), (0, 1, 2, 2)), (0, 2))
        self.assertEqual(sum_answer(knot, square, ((0, 0), (1, 1)), (0, 1, 2, 2), (0, 0, 1, 2)), (0, 2))
        self.assertEqual(sum_answer(knot, knot, ((0, 0), (1, 1)), (0, 1, 2, 3), (0, 1, 2, 3)), ())
        self.assertEqual(sum_answer(knot, knot, ((3, 0), (1, 2)), (0, 0, 0, 3), (1, 1, 2, 1)), (0, 1, 2, 3))

    def test_by_the_joined_web(self):
        chance = Random(107)
        webs = stout_webs()
        for _ in range(200):
            one, two = chance.choice(webs), chance.choice(webs)
            coats = chance.randint(2, 6)
            first, second = World(one, coats), World(two, coats, table=tuple((0, c) for c in range(1, coats)))
            floors, doors = (random_floor(first, chance), random_floor(second, chance)), any_doors(one, two, chance)
            web = joined(one, two, doors)
            self.assertEqual((len(slow_parts(web)), kind(web, 0)), (1, "stout"))
            world, part = World(web, coats), tuple(range(web.size))
            slow = slow_odd if slow_sides(web)[0] < 0 else slow_surplus
            self.assertEqual(sum_answer(first, second, doors, *floors), slow(world, floors[0] + floors[1], part))

    def test_joined_webs_of_more_than_forty_cells(self):
        chance = Random(109)
        webs = (grid(5, 8), grid(4, 10), two_rows(4, 36), collar(20), collar(19), crowded(20, 160), renamed(grid(5, 8), 3), full(4), grid(2, 2))
        for one in webs:
            for two in webs:
                coats = chance.randint(2, 6)
                first, second = World(one, coats), World(two, coats)
                for _ in range(3):
                    floors, doors = (random_floor(first, chance), random_floor(second, chance)), any_doors(one, two, chance)
                    self.assertEqual(sum_answer(first, second, doors, *floors), slow_sum(first, second, doors, *floors))

    def test_no_run_changes_it(self):
        chance = Random(113)
        one, two = World(grid(2, 3), 3), World(two_rows(2, 3), 3)
        first, second = random_floor(one, chance), random_floor(two, chance)
        told = sum_answer(one, two, ((0, 0), (1, 3)), first, second)
        for _ in range(10):
            there = random_run(one, first, 9, chance)[1][-1], random_run(two, second, 9, chance)[1][-1]
            self.assertEqual(sum_answer(one, two, ((0, 0), (1, 3)), *there), told)

    def test_errors_in_order(self):
        good, three = World(grid(2, 2), 2), World(grid(2, 2), 3)
        narrow, loose = World(line(4), 2), World(side_by_side(grid(2, 2), grid(2, 2)), 2)
        dot, hoop = World(line(1), 2), World(ring(5), 2)
        floor, doors = (0,) * 4, ((0, 0), (1, 1))
        self.refuses(BadSize, 3, sum_answer, narrow, three, (), (9, 9, 9), (9,))
        self.refuses(BadCoat, 1, sum_answer, narrow, three, (), (0, 2, -1, 0), (9,))
        self.refuses(BadSize, 1, sum_answer, narrow, three, (), floor, (9,))
        self.refuses(BadCoat, 3, sum_answer, narrow, three, (), floor, (0, 0, 2, 3))
        self.refuses(BadCount, 3, sum_answer, narrow, three, (), floor, floor)
        self.refuses(BadCount, 2, sum_answer, three, narrow, (), floor, floor)
        for bad in (narrow, loose, dot, hoop):
            cells = (0,) * bad.web.size
            self.refuses(NotStout, 0, sum_answer, bad, bad, (), cells, cells)
            self.refuses(NotStout, 0, sum_answer, bad, good, (), cells, floor)
            self.refuses(NotStout, 1, sum_answer, good, bad, (), floor, cells)
        self.assertFalse(linked(good.web, 0, 3))
        for bad in ((), ((0, 0),), doors + ((2, 2),), ((0, 0), (0, 0)), ((0, 0), (0, 1)), ((0, 0), (1, 0)), ((0, 0), (3, 1)), ((0, 0), (1, 3)),
                    ((0, 0), (4, 1)), ((0, 4), (1, 1)), ((-1, 0), (1, 1)), ((0, 0), (1, -1)), ((10 ** 30, 0), (1, -10 ** 30))):
            self.refuses(BadDoor, 0, sum_answer, good, good, bad, floor, floor)
        # A door at a cell that only the other web has.
        wide = World(grid(2, 3), 2)
        self.refuses(BadDoor, 0, sum_answer, good, wide, ((4, 0), (5, 1)), floor, (0,) * 6)
        self.assertEqual(sum_answer(good, wide, ((0, 4), (1, 5)), floor, (0,) * 6), (0, 0))
