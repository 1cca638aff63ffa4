"""What the document says of the whole program, and what one point says of the functions of another."""

from random import Random

from making import (
    Case, all_floors, all_tables, collar, full, grid, line, random_floor, random_run, renamed, ring, side_by_side, slow_classes, stout_webs,
    tree, two_rows,
)

from pairfloors.answers import answer, same
from pairfloors.ballcounts import ball, runs_of
from pairfloors.carriage import carriage, carriage_right, carry, cost
from pairfloors.classes import class_row
from pairfloors.cores import core_of, ring_row
from pairfloors.floornumbers import floor_at, floor_number
from pairfloors.floortext import floor_of, floor_text
from pairfloors.heights import heights, heights_right, rise
from pairfloors.hops import hop_run
from pairfloors.house import House
from pairfloors.joined import joined
from pairfloors.kinds import kind
from pairfloors.leads import lead
from pairfloors.loaded import fits
from pairfloors.lots import lot_size
from pairfloors.merging import merge_bound, merged
from pairfloors.normals import normal
from pairfloors.papers import apart, apart_right
from pairfloors.parts import part_web, parts
from pairfloors.plantext import plan_from, plan_text
from pairfloors.planwebs import web_of
from pairfloors.ringtallies import ring_lot
from pairfloors.runs import run_right
from pairfloors.runtext import run_from, run_text
from pairfloors.sayshouse import told
from pairfloors.shortest import far, shortest
from pairfloors.sides import sides
from pairfloors.stills import class_count, class_size, still_count
from pairfloors.sums import split, sum_answer
from pairfloors.surplus import odd_coats, surplus
from pairfloors.webs import Web
from pairfloors.webtext import web_from, web_text
from pairfloors.worlds import World

SMALL_STOUT = (grid(2, 2), full(4), grid(2, 3), two_rows(2, 3), collar(3), full(5))


class Holds(Case):
    def test_stout_parts_and_rings_by_all_runs(self):
        for web in SMALL_STOUT + (ring(3), ring(5), ring(6), renamed(ring(6), 3)):
            for world in [World(web, 2)] + [World(web, 3, table=table) for table in all_tables(3)]:
                least = slow_classes(world)
                found = {}
                for floor in all_floors(world):
                    if any(floor[a] == floor[b] for a, b in web.links):
                        found.setdefault(self.told(world, floor), set()).add(least[floor])
                # Each class of stirring floors has a surplus, odd coats or a core of its own.
                self.assertTrue(all(len(classes) == 1 for classes in found.values()))
                self.assertEqual(len({min(classes) for classes in found.values()}), len(found))

    def told(self, world, floor):
        if kind(world.web, 0) == "ring":
            return core_of(tuple(floor[x] for x in ring_row(world.web, 0)))
        return odd_coats(world, floor, 0) if sides(world.web)[0] < 0 else surplus(world, floor, 0)

    def test_a_run_or_a_paper_and_never_both(self):
        chance = Random(149)
        webs = [side_by_side(grid(2, 2), ring(5), line(1)), side_by_side(full(4), ring(3)), renamed(grid(2, 4), 1)] + stout_webs()[::7]
        for web in webs:
            for coats in (2, 3, 6):
                world = World(web, coats, table=tuple((0, c) for c in range(1, coats)))
                one = random_floor(world, chance)
                floors = [random_floor(world, chance) for _ in range(3)] + [random_run(world, one, many, chance)[1][-1] for many in (1, 9)]
                for two in floors + [one]:
                    paper = apart(world, one, two)
                    self.assertIs(paper is None, same(world, one, two))
                    if paper is None:
                        self.is_true(run_right(world, one, two, lead(world, one, two)))
                        self.assertEqual(normal(world, one), normal(world, two))
                        self.is_false(apart_right(world, one, two, ("still", 0, 0)))
                    else:
                        self.is_true(apart_right(world, one, two, paper))
                        self.assertNotEqual(normal(world, one), normal(world, two))

    def test_two_coats(self):
        chance = Random(151)
        for web in (grid(2, 3), line(7), tree(7, 1), ring(6), side_by_side(line(3), grid(2, 2), line(1)), two_rows(2, 5)):
            world = World(web, 2)
            one = random_floor(world, chance)
            row = far(world, one)
            for n, steps in enumerate(row):
                two = floor_at(world, n)
                self.assertIs(fits(web, one, two), steps >= 0)
                if steps >= 0:
                    pairs, levels, run = carriage(web, one, two), heights(web, one, two), hop_run(web, one, two)
                    self.assertEqual([carry(web, one, two), cost(web, pairs), rise(web, one, two, levels), len(run)], [steps] * 4)
                    self.assertEqual(len(shortest(world, one, two)), steps)
                    self.is_true(carriage_right(web, one, two, pairs))
                    self.is_true(heights_right(web, one, two, steps, levels))
                    self.is_true(run_right(world, one, two, run))

    def test_merging_into_two_coats(self):
        chance = Random(157)
        for web, coats in ((grid(2, 3), 3), (line(6), 3), (ring(4), 4), (side_by_side(line(3), line(2)), 4)):
            world = World(web, coats, table=tuple((c, c + 1) for c in range(coats - 1)))
            one = random_floor(world, chance)
            for n, steps in enumerate(far(world, one)):
                if steps >= 0:
                    self.assertLessEqual(merge_bound(world, one, floor_at(world, n)), steps)

    def test_texts(self):
        plan = (3, 4, 1, ((1, 2),), (((0, 0), (0, 1)), ((0, 0), (0, 3))))
        web = web_of(plan)
        floor = tuple(x % 6 for x in range(web.size))
        run = ((0, 4, 1), (4, 5, 0))
        self.assertEqual((plan_from(plan_text(plan)), floor_of(plan, floor_text(plan, floor)), run_from(run_text(run))), (plan, floor, run))
        self.is_web(web_from(web_text(web)), web.size, web.links)
        text = "plan 3 4 1\nhole 1 2\nwall 0 0 0 1\nwall 0 0 0 3"
        self.assertEqual((plan_text(plan_from(text)), plan_text(plan)), (text, text))


class Agree(Case):
    def test_classes(self):
        for web, coats in ((grid(2, 3), 3), (ring(6), 3), (collar(3), 3), (full(5), 4), (ring(5), 4), (grid(2, 2), 5), (line(1), 6)):
            world = World(web, coats)
            row = class_row(world)
            self.assertEqual(class_count(web, coats), len(set(row)))
            self.assertEqual(sum(class_size(world, floor_at(world, n)) for n in set(row)), coats ** web.size)
            self.assertEqual([class_size(world, floor_at(world, n)) for n in set(row)], [row.count(n) for n in set(row)])
            self.assertEqual(sum(row.count(n) == 1 for n in set(row)), still_count(web, coats))
            for n in list(set(row))[::5]:
                self.assertEqual(ball(world, floor_at(world, n), 1000), row.count(n))

    def test_classes_of_several_parts(self):
        web = side_by_side(grid(2, 2), ring(3), line(1))
        row = class_row(World(web, 2))
        self.assertEqual(class_count(web, 2), len(set(row)))
        for n in range(0, 2 ** 8, 7):
            floor = floor_at(World(web, 2), n)
            many = 1
            for part, piece in zip(parts(web), split(World(web, 2), floor)):
                many *= class_size(World(part_web(web, part[0]), 2), piece)
            self.assertEqual(row.count(row[n]), many)

    def test_split_and_answer(self):
        chance = Random(163)
        web = renamed(side_by_side(grid(2, 3), full(4), ring(5), line(1)), 2)
        for coats in (2, 3):
            world = World(web, coats)
            for _ in range(20):
                floor = random_floor(world, chance)
                pieces = [answer(World(part_web(web, part[0]), coats), piece) for part, piece in zip(parts(web), split(world, floor))]
                # A ring row may begin and turn anew where the cells of a part get new numbers, but they keep their order.
                self.assertEqual(answer(world, floor), tuple(piece[0] for piece in pieces))

    def test_sums_and_joined_webs(self):
        for one, two in ((grid(2, 2), grid(2, 3)), (full(4), grid(2, 2)), (grid(2, 3), collar(3))):
            doors = ((one.links[0][0], two.links[-1][0]), (one.links[0][1], two.links[-1][1]))
            world, chance = World(joined(one, two, doors), 3), Random(167)
            for _ in range(10):
                first, second = random_floor(World(one, 3), chance), random_floor(World(two, 3), chance)
                told_sum = sum_answer(World(one, 3), World(two, 3), doors, first, second)
                self.assertEqual(told_sum, self.key(world, first + second))

    def key(self, world, floor):
        return odd_coats(world, floor, 0) if sides(world.web)[0] < 0 else surplus(world, floor, 0)

    def test_lots_and_rings(self):
        self.assertEqual(class_size(World(ring(7), 3), (0,) * 7), ring_lot(7, 3, (0,)))
        self.assertEqual(class_size(World(grid(2, 3), 2), (0,) * 6), lot_size(grid(2, 3), 2, (0, 0)))

    def test_runs_merged_and_counted(self):
        world = World(grid(2, 2), 3)
        one, two = (2, 1, 0, 0), (0, 0, 1, 2)
        steps = far(world, one)[floor_number(world, two)]
        self.assertEqual([runs_of(world, one, two, n) > 0 for n in range(steps + 1)], [False] * steps + [True])
        self.assertEqual(carry(world.web, merged(world, one, (0, 0, 1)), merged(world, two, (0, 0, 1))), merge_bound(world, one, two))

    def test_a_house_on_a_plan(self):
        plan = (2, 3, 0, (), ())
        house = House(web_from(web_text(web_of(plan))), 3, floor=floor_of(plan, "aab\nbca"))
        goal = (1, 2, 2, 1, 2, 0)
        told(house, "aim " + floor_text(plan, goal).replace("\n", ""))
        self.assertEqual(told(house, "can"), "yes")
        told(house, "lay " + run_text(lead(World(house.web(), 3), house.floor(), goal)))
        self.assertEqual(house.floor(), goal)
        self.assertEqual(told(house, "floor"), "bccbca")
        told(house, "cut 1 4")
        self.assertEqual(told(house, "kind 0"), "ring")
        self.assertEqual(house.answer(), (("ring", core_of((1, 2, 2, 0, 2, 1))),))


class Limits(Case):
    def test_webs_of_forty_cells(self):
        for web in (grid(5, 8), Web(40, ()), line(40), ring(40)):
            world = World(web, 6)
            floor = tuple(x % 6 for x in range(40))
            self.assertEqual(floor_at(world, floor_number(world, floor)), floor)
            self.assertEqual(len(split(world, floor)), len(parts(web)))
            self.assertEqual(merge_bound(world, floor, floor), 0)
