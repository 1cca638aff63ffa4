from itertools import combinations

from making import NO_PAIRS, Case, crowded, full, grid, line, linked, near, ring, some_webs, two_rows

from pairfloors.errors import BadCell, BadDoor, BadPair, BadSize, TooMany
from pairfloors.joined import joined, with_corner
from pairfloors.kinds import is_stout, kind
from pairfloors.parts import parts
from pairfloors.planwebs import web_of
from pairfloors.sides import sides
from pairfloors.webs import Web


class Corners(Case):
    def test_by_the_document(self):
        for web in some_webs():
            for x in range(web.size):
                for z in range(web.size):
                    links = sorted(list(web.links) + [(x, web.size), (z, web.size)])
                    if x == z:
                        self.refuses(BadPair, (x, z), with_corner, web, x, z)
                    else:
                        self.is_web(with_corner(web, x, z), web.size + 1, links)

    def test_by_name(self):
        self.is_web(with_corner(web=line(2), x=1, z=0), 3, ((0, 1), (0, 2), (1, 2)))

    def test_at_the_limits(self):
        self.assertEqual(with_corner(crowded(39, 158), 38, 37).size, 40)
        self.assertEqual(len(with_corner(crowded(39, 158), 0, 38).links), 160)
        self.refuses(TooMany, 161, with_corner, crowded(39, 159), 0, 1)
        self.refuses(TooMany, 162, with_corner, crowded(39, 160), 0, 1)
        self.refuses(BadSize, 41, with_corner, Web(40, ()), 0, 1)

    def test_no_cells(self):
        for web in (grid(2, 2), crowded()):
            for bad in (-1, web.size, 10 ** 30, -10 ** 30):
                self.refuses(BadCell, bad, with_corner, web, bad, 0)
                self.refuses(BadCell, bad, with_corner, web, 0, bad)
                self.refuses(BadCell, bad, with_corner, web, bad, bad)
                self.refuses(BadCell, 77, with_corner, web, 77, bad)

    def test_order_of_errors(self):
        self.refuses(BadPair, (3, 3), with_corner, crowded(), 3, 3)
        self.refuses(BadSize, 41, with_corner, crowded(40, 160), 0, 1)
        self.refuses(BadPair, (3, 3), with_corner, crowded(39, 160), 3, 3)


class Joined(Case):
    def test_by_the_document(self):
        webs = [line(1), line(3), ring(4), grid(2, 3), Web(3, ())]
        for one in webs:
            for two in webs:
                every = [(a, b) for a in range(one.size) for b in range(two.size)]
                for doors in ((), tuple(every[-1:]), tuple(every[::2]), tuple(reversed(every))):
                    links = set(one.links) | {(one.size + a, one.size + b) for a, b in two.links}
                    links |= {(a, one.size + b) for a, b in doors}
                    self.is_web(joined(one, two, doors), one.size + two.size, sorted(links))

    def test_side_by_side(self):
        self.is_web(joined(one=line(2), two=ring(3), doors=()), 5, ((0, 1), (2, 3), (2, 4), (3, 4)))
        self.assertEqual(parts(joined(ring(4), ring(3), ())), ((0, 1, 2, 3), (4, 5, 6)))

    def test_a_web_with_itself(self):
        web = ring(4)
        self.is_web(joined(web, web, ((3, 0),)), 8, sorted(web.links + ((3, 4), (4, 5), (4, 7), (5, 6), (6, 7))))
        self.is_web(web, 4, ((0, 1), (0, 3), (1, 2), (2, 3)))

    def test_sizes(self):
        self.assertEqual(joined(line(20), line(20), ()).size, 40)
        self.assertEqual(joined(line(1), Web(39, ()), ((0, 38),)).links, ((0, 39),))
        self.refuses(BadSize, 41, joined, line(20), line(21), ())
        self.refuses(BadSize, 80, joined, crowded(), crowded(), ())
        self.refuses(BadSize, 41, joined, line(1), line(40), ((7, 7),))

    def test_doors(self):
        one, two = line(2), line(3)
        for bad in ((-1, 0), (0, -1), (2, 0), (0, 3), (10 ** 30, 0), (0, 10 ** 30), (-10 ** 30, 0), (1, 4), (2, 2)):
            self.refuses(BadDoor, 0, joined, one, two, (bad,))
            self.refuses(BadDoor, 2, joined, one, two, ((1, 2), (0, 0), bad))
        self.refuses(BadDoor, 1, joined, one, two, ((1, 2), (1, 2)))
        self.refuses(BadDoor, 2, joined, one, two, ((1, 2), (0, 0), (1, 2)))
        self.refuses(BadDoor, 1, joined, one, two, ((1, 2), (1, 2), (5, 5)))
        self.refuses(BadDoor, 1, joined, one, two, ((1, 2), (5, 5), (1, 2)))
        self.assertEqual(joined(one, two, ((1, 2), (0, 0), (1, 0))).links, ((0, 1), (0, 2), (1, 2), (1, 4), (2, 3), (3, 4)))

    def test_doors_that_are_no_pairs(self):
        for bad in NO_PAIRS:
            self.refuses(BadDoor, 0, joined, line(4), line(4), (bad,))
            self.refuses(BadDoor, 1, joined, line(4), line(4), ((3, 3), bad, (3, 3)))

    def test_links(self):
        one, two = crowded(20, 80), crowded(20, 80)
        self.assertEqual(len(joined(one, two, ()).links), 160)
        self.refuses(TooMany, 161, joined, one, two, ((0, 0),))
        self.refuses(TooMany, 162, joined, one, two, ((19, 19), (0, 0)))
        self.refuses(BadDoor, 1, joined, one, two, ((0, 0), (0, 0)))
        every = tuple((a, b) for a in range(20) for b in range(20))
        self.refuses(TooMany, 400, joined, Web(20, ()), Web(20, ()), every)
        self.assertEqual(len(joined(Web(20, ()), Web(20, ()), every[:160]).links), 160)
        self.refuses(BadDoor, 400, joined, Web(20, ()), Web(20, ()), every + every)


class WhatFollows(Case):
    def test_a_corner_at_cells_with_a_common_near_cell(self):
        one_sided = [full(4), full(5), web_of((3, 2, 2, (), ())), web_of((3, 3, 3, (), ()))]
        for web in [grid(2, 2), grid(2, 3), grid(3, 3), two_rows(3, 4)] + one_sided:
            two_sided = -1 not in sides(web)
            for x, z in combinations(range(web.size), 2):
                if set(near(web, x)) & set(near(web, z)):
                    more = with_corner(web, x, z)
                    self.assertEqual(len(parts(more)), 1)
                    self.assertTrue(is_stout(more, 0))
                    self.assertIs(-1 not in sides(more), two_sided)
                    if two_sided:
                        self.assertEqual(sides(more)[web.size], 1 - sides(web)[x])

    def test_two_doors_from_link_to_link(self):
        webs = [grid(2, 2), grid(2, 3), full(4), two_rows(2, 3), web_of((3, 2, 2, (), ()))]
        for one in webs:
            for two in webs:
                for a, b in one.links:
                    for c, d in two.links + tuple((d, c) for c, d in two.links):
                        self.check(one, two, ((a, c), (b, d)))

    def check(self, one, two, doors):
        web = joined(one, two, doors)
        self.assertEqual(len(parts(web)), 1)
        self.assertTrue(is_stout(web, 0))
        self.assertIs(-1 not in sides(web), -1 not in sides(one) and -1 not in sides(two))

    def test_one_door_is_not_enough(self):
        for one in (grid(2, 2), full(4)):
            web = joined(one, grid(2, 3), ((0, 0),))
            self.assertEqual((len(parts(web)), kind(web, 0)), (1, "narrow"))

    def test_doors_may_make_an_odd_round(self):
        web = joined(line(2), line(1), ((0, 0), (1, 0)))
        self.assertEqual(sides(web), (-1, -1, -1))
        self.assertTrue(linked(web, 0, 2))
