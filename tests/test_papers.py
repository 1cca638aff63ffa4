from random import Random

from making import (
    ODD_THINGS, Case, all_floors, crowded, full, grid, line, made, random_floor, random_run, renamed, ring, side_by_side,
    slow_classes, stout_webs,
)

from pairfloors.answers import same
from pairfloors.errors import BadCoat, BadSize, Narrow
from pairfloors.keepers import coat_keeper
from pairfloors.papers import apart, apart_right
from pairfloors.webs import Web
from pairfloors.worlds import World

KEEPER = ((0, 1), (0, -1), (0, -1), (0, 1))


class Apart(Case):
    def check(self, world, one, two):
        paper = apart(world, one, two)
        if same(world, one, two):
            self.assertIsNone(paper)
        else:
            self.assertIsInstance(paper, tuple)
            self.is_true(apart_right(world, one, two, paper))

    def test_examples(self):
        world = World(grid(2, 2), 2)
        self.check(world, (0, 0, 0, 0), (0, 0, 0, 1))
        self.assertIsNone(apart(world=world, one=(0, 0, 1, 1), two=(1, 1, 0, 0)))
        self.check(World(ring(5), 3), (0, 0, 0, 1, 2), (0, 0, 0, 2, 1))

    def test_either_a_run_or_a_paper(self):
        for web, coats in ((grid(2, 2), 3), (full(4), 3), (ring(5), 2), (ring(6), 2), (ring(3), 4), (line(1), 6), (Web(2, ()), 3),
                           (side_by_side(ring(3), line(1)), 2), (side_by_side(ring(3), ring(3)), 2)):
            world = World(web, coats)
            classes, chance = slow_classes(world), Random(151)
            floors = all_floors(world)
            for one, two in [(chance.choice(floors), chance.choice(floors)) for _ in range(400)]:
                self.check(world, one, two)
                self.assertIs(apart(world, one, two) is None, classes[one] == classes[two])

    def test_all_kinds_of_parts(self):
        chance = Random(157)
        for web in stout_webs()[::3] + [ring(12), ring(11), side_by_side(full(4), ring(5), grid(2, 3), line(1)), Web(3, ())]:
            for coats in (2, 3, 6):
                world = World(web, coats)
                for _ in range(6):
                    one = random_floor(world, chance)
                    self.check(world, one, random_floor(world, chance))
                    self.check(world, one, random_run(world, one, 5, chance)[1][-1])
                    self.check(world, one, (one[-1],) + one[1:])

    def test_still_papers_tell_who(self):
        world = World(ring(4), 2)
        self.check(world, (0, 1, 0, 1), (0, 0, 1, 1))
        self.check(world, (0, 0, 1, 1), (0, 1, 0, 1))
        self.check(world, (1, 0, 1, 0), (0, 1, 0, 1))
        self.check(World(line(2), 2), (1, 0), (0, 1))

    def test_the_second_part_alone_differs(self):
        web = side_by_side(grid(2, 2), full(4), ring(5), line(2))
        world = World(web, 3)
        one = (0, 0, 1, 1) + (0, 0, 1, 2) + (0, 0, 0, 1, 2) + (0, 1)
        for two in (one[:4] + (0, 0, 0, 0) + one[8:], one[:8] + (0, 0, 0, 2, 1) + one[13:], one[:13] + (1, 0), one[:13] + (2, 0)):
            self.check(world, one, two)
            self.check(world, two, one)

    def test_errors_in_order(self):
        world = World(side_by_side(line(2), line(2)), 2)
        still, first, second = (0, 1, 0, 1), (0, 0, 0, 1), (0, 1, 0, 0)
        self.refuses(BadSize, 2, apart, world, (9, 9), (9,))
        self.refuses(BadCoat, 3, apart, world, (0, 0, 0, 2), (9,))
        self.refuses(BadSize, 1, apart, world, first, (9,))
        self.refuses(BadCoat, 0, apart, world, first, (-1, 0, 0, 0))
        self.refuses(Narrow, 2, apart, world, second, first)
        self.refuses(Narrow, 0, apart, world, still, first)
        self.refuses(Narrow, 2, apart, world, still, second)

    def test_at_the_limits(self):
        self.check(World(crowded(), 6), (5,) * 40, (5,) * 39 + (4,))
        self.check(World(grid(5, 8), 6), (5,) * 40, (5,) * 39 + (4,))
        self.check(World(ring(40), 6), (5,) * 40, (5,) * 39 + (4,))
        self.check(World(Web(40, ()), 6), (5,) * 40, (5,) * 39 + (4,))


class Judged(Case):
    def test_examples(self):
        world = World(grid(2, 2), 2)
        one, two = (0, 0, 0, 0), (0, 0, 0, 1)
        self.is_true(apart_right(world, one, two, ("weighs", KEEPER, 0)))
        self.is_true(apart_right(world=world, one=two, two=one, paper=("weighs", KEEPER, 0)))
        self.is_false(apart_right(world, one, two, ("still", 0, 1)))
        self.is_true(apart_right(World(ring(5), 3), (0, 0, 0, 1, 2), (0, 0, 0, 2, 1), ("ring", 3)))

    def test_still(self):
        world = World(side_by_side(grid(2, 2), line(2)), 2)
        still, stirs = (0, 1, 1, 0) + (0, 1), (0, 0, 1, 1) + (0, 1)
        for x in range(4):
            self.is_true(apart_right(world, still, stirs, ("still", x, 0)))
            self.is_false(apart_right(world, still, stirs, ("still", x, 1)))
            self.is_true(apart_right(world, stirs, still, ("still", x, 1)))
            self.is_false(apart_right(world, stirs, still, ("still", x, 0)))
        # Still there, but the floors do not differ there.
        for x in (4, 5):
            for who in (0, 1):
                self.is_false(apart_right(world, still, stirs, ("still", x, who)))
        self.is_false(apart_right(world, still, still, ("still", 0, 0)))
        other = (1, 0, 0, 1) + (1, 0)
        for x in range(6):
            for who in (0, 1):
                self.is_true(apart_right(world, still, other, ("still", x, who)))

    def test_still_forms(self):
        world, one, two = World(ring(4), 2), (0, 1, 0, 1), (0, 0, 1, 1)
        self.is_true(apart_right(world, one, two, ("still", 0, 0)))
        for paper in (("still", 4, 0), ("still", -1, 0), ("still", 10 ** 30, 0), ("still", 0, 2), ("still", 0, -1), ("still", 0, -2),
                      ("still", 0, 10 ** 30), ("still", 0), ("still",), ("still", 0, 0, 0), ("Still", 0, 0), ("still", "0", 0),
                      ("still", 0, "0"), ("still", None, 0), ("still", 0, None), ("still", (0,), 0), ("weighs", 0, 0),
                      (0, 0, 0), (None, 0, 0), (("still",), 0, 0), ("sides", 0, 0), ("", 0, 0)):
            self.is_false(apart_right(world, one, two, paper))

    def test_weighs(self):
        world = World(full(4), 3)
        one, two = (0, 1, 1, 2), (0, 1, 1, 1)
        self.is_true(apart_right(world, one, two, ("weighs", coat_keeper(world, 0, 2), 2)))
        self.is_false(apart_right(world, one, two, ("weighs", coat_keeper(world, 0, 0), 2)))
        # Different weights, but no keeper for the modulus.
        for modulus in (0, 3, 4, 10 ** 6):
            self.is_false(apart_right(world, one, two, ("weighs", coat_keeper(world, 0, 2), modulus)))
        # A keeper for each modulus 2 to 10 ** 6 and 0, but the weights differ by 2.
        world = World(grid(2, 3), 2)
        one, two = (0,) * 6, (1, 0, 1, 0, 0, 0)
        for modulus, right in ((0, True), (2, False), (3, True), (10 ** 6, True), (1, False), (-2, False), (10 ** 6 + 1, False)):
            self.assertIs(apart_right(world, one, two, ("weighs", coat_keeper(world, 0, 1), modulus)), right)
        for weighing in ((), ((0, 1),) * 5, ((0, 1),) * 7, ((0, 1, 2),) * 6, "", None, 0):
            self.is_false(apart_right(world, one, two, ("weighs", weighing, 0)))
        self.is_false(apart_right(world, one, two, ("weighs", coat_keeper(world, 0, 1))))
        self.is_false(apart_right(world, one, two, ("weighs", coat_keeper(world, 0, 1), 0, 0)))

    def test_other_names(self):
        world = World(grid(2, 2), 2)
        for name in ("still", "ring", "sides", "odd", "Weighs", "weigh", "", None, 0, ("weighs",)):
            self.is_false(apart_right(world, (0, 0, 0, 0), (0, 0, 0, 1), (name, KEEPER, 0)))
        self.is_false(apart_right(world, (0, 0, 0, 0), (0, 0, 0, 1), ("weighs", KEEPER)))

    def test_weighings_of_any_size(self):
        world, huge = World(line(2), 2), 10 ** 300
        self.is_true(apart_right(world, (0, 0), (0, 1), ("weighs", ((0, huge), (huge, 0)), 0)))
        self.is_false(apart_right(world, (0, 0), (0, 1), ("weighs", ((0, huge), (huge, 0)), 10)))

    def test_ring(self):
        world = World(side_by_side(ring(5), grid(2, 2)), 3)
        one, two = (0, 0, 0, 1, 2, 0, 0, 0, 0), (0, 0, 0, 2, 1, 1, 0, 0, 0)
        for x in range(5):
            self.is_true(apart_right(world, one, two, ("ring", x)))
            self.is_false(apart_right(world, one, one, ("ring", x)))
        # A round of four cells is stout, no ring.
        for x in (5, 8, 9, -1, 10 ** 30, -10 ** 30, None, "0", (0,)):
            self.is_false(apart_right(world, one, two, ("ring", x)))
        for paper in (("ring",), ("ring", 0, 0), ("ring", 0, 1), (0, 0), ("", 0), ("RING", 0), (None, 0), (("ring",), 0)):
            self.is_false(apart_right(world, one, two, paper))

    def test_cores_of_still_rings(self):
        world = World(ring(6), 3)
        still, other, stirs = (0, 1, 0, 1, 0, 2), (0, 2, 0, 1, 0, 1), (0, 0, 1, 1, 2, 2)
        self.is_true(apart_right(world, still, stirs, ("ring", 0)))
        self.is_true(apart_right(world, stirs, still, ("ring", 5)))
        # Two still floors that are turns of one another by two places: they differ, but their cores do not.
        self.is_false(apart_right(world, still, other, ("ring", 0)))
        self.is_true(apart_right(world, still, other, ("still", 0, 0)))

    def test_where_narrow_parts_stir(self):
        world = World(side_by_side(line(3), ring(5)), 3)
        one, two = (0, 0, 0) + (0, 0, 0, 1, 2), (0, 0, 1) + (0, 0, 0, 2, 1)
        self.refuses(Narrow, 0, apart, world, one, two)
        self.is_true(apart_right(world, one, two, ("ring", 4)))
        self.is_true(apart_right(world, one, two, ("weighs", coat_keeper(world, 0, 1), 0)))
        self.is_false(apart_right(world, one, two, ("still", 0, 0)))
        self.is_true(apart_right(world, one, (0, 1, 0) + two[3:], ("still", 0, 1)))

    def test_no_run_where_a_paper_is_right(self):
        chance = Random(163)
        right = 0
        for web, coats in ((line(4), 2), (line(3), 3), (made(4, [(0, 1), (0, 2), (0, 3)]), 3), (ring(5), 3), (ring(6), 2), (full(4), 2),
                           (side_by_side(line(2), ring(3)), 2), (made(5, list(ring(4).links) + [(0, 4)]), 2), (renamed(ring(5), 3), 2)):
            world = World(web, coats)
            classes, floors = slow_classes(world), all_floors(world)
            papers = [("still", x, who) for x in range(web.size) for who in (0, 1)] + [("ring", x) for x in range(web.size)]
            papers += [("weighs", coat_keeper(world, x, coat), modulus) for x in (0, web.size - 1) for coat in range(coats)
                       for modulus in (0, 2, 3)]
            for _ in range(60):
                one, two = chance.choice(floors), chance.choice(floors)
                told = [apart_right(world, one, two, paper) for paper in papers]
                right += sum(told)
                if classes[one] == classes[two]:
                    self.assertNotIn(True, told)
        self.assertGreater(right, 500)

    def test_no_floors(self):
        world = World(ring(4), 2)
        paper = ("still", 0, 0)
        self.is_true(apart_right(world, (0, 1, 0, 1), (0, 0, 0, 0), paper))
        for bad in ((), (0, 1, 0), (0, 1, 0, 1, 0), (0, 2, 0, 2), (0, -1, 0, -1), (0, 1, 0, "1"), "0101", None, 0, ((0, 1, 0, 1),)):
            self.is_false(apart_right(world, bad, (0, 0, 0, 0), paper))
            self.is_false(apart_right(world, (0, 1, 0, 1), bad, paper))
            self.is_false(apart_right(world, bad, bad, paper))

    def test_odd_things(self):
        for web in (ring(4), line(2), ring(5), crowded(), full(4)):
            world = World(web, 2)
            one, two = (0,) * web.size, (0,) * (web.size - 1) + (1,)
            for thing in ODD_THINGS:
                self.is_false(apart_right(world, one, two, thing))
                self.is_false(apart_right(world, thing, two, ("ring", 0)))
                self.is_false(apart_right(world, one, thing, ("ring", 0)))
                self.is_false(apart_right(world, thing, thing, thing))
                for paper in (("still", thing, 0), ("still", 0, thing), ("still", thing, thing), ("weighs", thing, 2),
                              ("weighs", ((0, 0),) * web.size, thing), ("weighs", ((0, 0),) * (web.size - 1) + (thing,), 0),
                              ("weighs", thing, thing), ("ring", thing), (thing, 0), (thing, 0, 0), (thing, thing, thing)):
                    self.is_false(apart_right(world, one, two, paper) and thing not in (0, 1))
