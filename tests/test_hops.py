from random import Random

from making import (
    Case, all_floors, full, grid, line, made, random_load, renamed, ring, side_by_side, slow_after, slow_far, slow_let, slow_parts,
    tree, two_rows, two_sided_webs,
)

from pairfloors.carriage import carry
from pairfloors.errors import BadCoat, BadSize, NotSame, OneSided
from pairfloors.hops import hop_run
from pairfloors.loaded import floor_of_load
from pairfloors.sides import sides
from pairfloors.webs import Web
from pairfloors.worlds import World

ONE_SIDED = ((ring(3), 0), (side_by_side(line(2), ring(4), full(4), ring(5)), 6), (made(5, [(0, 4), (1, 2), (2, 3), (1, 3)]), 1))
WEB = grid(2, 3)
ALL_0, ALL_1 = (0,) * 6, (1,) * 6


class HopRun(Case):
    def check(self, web, one, two, steps):
        """Whether the run is one of so many deeds."""
        world, run, here = World(web, 2), hop_run(web, one, two), one
        self.assertIs(run.__class__, tuple)
        for deed in run:
            self.assertIs(deed.__class__, tuple)
            self.assertTrue(slow_let(world, here, deed))
            here = slow_after(here, deed)
        self.assertEqual((here, len(run)), (two, steps))

    def test_example(self):
        self.check(WEB, ALL_0, ALL_1, 3)
        self.assertEqual(len(hop_run(web=WEB, one=ALL_1, two=ALL_0)), 3)

    def test_shortest_of_all_runs(self):
        for web in two_sided_webs():
            floors, chance = all_floors(World(web, 2)), Random(web.size)
            for one in chance.sample(floors, min(4, len(floors))):
                for two, steps in slow_far(World(web, 2), one).items():
                    self.check(web, one, two, steps)

    def test_equal_floors_and_nothing_loaded(self):
        for web in (line(1), line(5), WEB, Web(40, ()), grid(5, 8), side_by_side(line(2), line(3))):
            shades = sides(web)
            for floor in (shades, tuple(1 - side for side in shades), (0,) * web.size):
                self.assertEqual(hop_run(web, floor, floor), ())

    def test_loads_in_the_way(self):
        # All loads of the line have to go on by one cell or by two, and each stands in the way of the one behind it.
        for many in (3, 8, 39):
            web = line(many + 1)
            self.check(web, floor_of_load(web, tuple(range(many))), floor_of_load(web, tuple(range(1, many + 1))), many)
            self.check(web, floor_of_load(web, tuple(range(1, many + 1))), floor_of_load(web, tuple(range(many))), many)
        self.check(line(40), floor_of_load(line(40), tuple(range(38))), floor_of_load(line(40), tuple(range(2, 40))), 76)

    def test_webs_of_forty_cells(self):
        chance = Random(61)
        for web in (line(40), ring(40), grid(5, 8), grid(4, 10), two_rows(4, 36), two_rows(20, 8), tree(40, 3), tree(40, 5), renamed(line(40), 4)):
            shades = sides(web)
            for many in (1, 7, web.size // 2, web.size // 2, web.size - 3):
                one, two = random_load(web, shades, many, chance), random_load(web, shades, many, chance)
                self.check(web, one, two, carry(web, one, two))
        self.check(line(40), floor_of_load(line(40), tuple(range(20))), floor_of_load(line(40), tuple(range(20, 40))), 400)

    def test_several_parts(self):
        web = renamed(side_by_side(line(9), grid(4, 4), ring(8), line(1), tree(6, 2)), 5)
        shades, chance = sides(web), Random(67)
        for _ in range(10):
            one = random_load(web, shades, 20, chance)
            cells = []
            for part in slow_parts(web):
                cells += chance.sample(part, sum(one[x] != shades[x] for x in part))
            two = floor_of_load(web, tuple(sorted(cells)))
            self.check(web, one, two, carry(web, one, two))

    def test_errors_in_order(self):
        for web, least in ONE_SIDED:
            self.refuses(OneSided, least, hop_run, web, (9,), (9,))
        self.refuses(BadSize, 5, hop_run, WEB, (9,) * 5, (9,))
        self.refuses(BadCoat, 4, hop_run, WEB, (0, 0, 0, 0, 2, -1), (9,))
        self.refuses(BadSize, 1, hop_run, WEB, ALL_0, (9,))
        self.refuses(BadCoat, 0, hop_run, WEB, ALL_0, (-1, 0, 0, 0, 0, 9))
        self.refuses(NotSame, 0, hop_run, WEB, ALL_0, (0, 0, 0, 0, 0, 1))
        web = side_by_side(line(2), line(2))
        self.refuses(NotSame, 2, hop_run, web, floor_of_load(web, (0, 2)), floor_of_load(web, (1,)))
