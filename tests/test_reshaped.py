from itertools import combinations

from making import Case, crowded, full, grid, line, linked, ring, side_by_side, slow_rows, some_webs

from pairfloors.errors import BadCell, BadPair, BadSize, TooMany
from pairfloors.kinds import is_stout
from pairfloors.parts import parts
from pairfloors.reshaped import with_link, without_cell, without_link
from pairfloors.sides import sides
from pairfloors.webs import Web


class Links(Case):
    def test_by_the_document(self):
        for web in some_webs():
            for a in range(web.size):
                for b in range(web.size):
                    self.check(web, a, b)

    def check(self, web, a, b):
        link = (min(a, b), max(a, b))
        if linked(web, a, b):
            self.refuses(BadPair, (a, b), with_link, web, a, b)
            self.is_web(without_link(web, a, b), web.size, sorted(set(web.links) - {link}))
        elif a == b:
            self.refuses(BadPair, (a, b), with_link, web, a, b)
            self.refuses(BadPair, (a, b), without_link, web, a, b)
        else:
            self.is_web(with_link(web, a, b), web.size, sorted(set(web.links) | {link}))
            self.refuses(BadPair, (a, b), without_link, web, a, b)

    def test_in_any_order_and_by_name(self):
        web = Web(4, ((0, 1), (2, 3)))
        for a, b in ((1, 2), (2, 1)):
            self.is_web(with_link(web=web, a=a, b=b), 4, ((0, 1), (1, 2), (2, 3)))
            self.is_web(without_link(web=with_link(web, a, b), a=a, b=b), 4, ((0, 1), (2, 3)))
        self.is_web(web, 4, ((0, 1), (2, 3)))

    def test_at_the_limits(self):
        web = crowded(40, 159)
        self.assertFalse(linked(web, 38, 39))
        self.is_web(with_link(web, 39, 38), 40, web.links + ((38, 39),))
        self.refuses(TooMany, 161, with_link, crowded(), 38, 39)
        self.refuses(TooMany, 161, with_link, crowded(), 39, 38)
        self.is_web(without_link(crowded(), 1, 0), 40, crowded().links[1:])
        self.is_web(with_link(Web(2, ()), 0, 1), 2, ((0, 1),))

    def test_no_cells(self):
        for change in (with_link, without_link):
            for web in (grid(2, 2), crowded()):
                for bad in (-1, web.size, 10 ** 30, -10 ** 30):
                    self.refuses(BadCell, bad, change, web, bad, 0)
                    self.refuses(BadCell, bad, change, web, 0, bad)
                    self.refuses(BadCell, bad, change, web, bad, bad)
                    self.refuses(BadCell, bad, change, web, bad, 77)
                    self.refuses(BadCell, 77, change, web, 77, bad)

    def test_bad_pairs_before_too_many(self):
        self.refuses(BadPair, (0, 1), with_link, crowded(), 0, 1)
        self.refuses(BadPair, (39, 39), with_link, crowded(), 39, 39)


class Cells(Case):
    def test_by_the_document(self):
        for web in some_webs():
            for x in range(web.size):
                left = [y for y in range(web.size) if y != x]
                links = [(left.index(a), left.index(b)) for a, b in web.links if x not in (a, b)]
                if left:
                    self.is_web(without_cell(web, x), web.size - 1, links)

    def test_later_cells_become_less_by_one(self):
        self.is_web(without_cell(line(4), 1), 3, ((1, 2),))
        self.is_web(without_cell(web=line(4), x=3), 3, ((0, 1), (1, 2)))
        self.is_web(without_cell(ring(5), 0), 4, ((0, 1), (1, 2), (2, 3)))

    def test_at_the_limits(self):
        self.is_web(without_cell(crowded(), 0), 39, [(a - 1, b - 1) for a, b in crowded().links if a > 0])
        self.is_web(without_cell(Web(2, ((0, 1),)), 0), 1, ())

    def test_the_only_cell(self):
        self.refuses(BadSize, 0, without_cell, line(1), 0)

    def test_no_cell(self):
        for web in (line(1), grid(2, 2)):
            for bad in (-1, web.size, 10 ** 30):
                self.refuses(BadCell, bad, without_cell, web, bad)


class WhatFollows(Case):
    def test_a_link_at_the_ends_of_a_row_of_four_keeps_stout_webs_stout(self):
        for web in (grid(2, 3), grid(2, 4), grid(3, 3), grid(3, 4), full(4), side_by_side(ring(4))):
            two_sided = -1 not in sides(web)
            for a, b in combinations(range(web.size), 2):
                ends = [(x, y) for x in web.near(a) for y in web.near(b) if linked(web, x, y) and len({a, x, y, b}) == 4]
                if ends and not linked(web, a, b):
                    more = with_link(web, a, b)
                    self.assertEqual(len(parts(more)), 1)
                    self.assertTrue(is_stout(more, 0))
                    self.assertIs(-1 not in sides(more), two_sided)

    def test_a_link_between_parts_makes_one(self):
        web = side_by_side(ring(4), ring(4))
        more = with_link(web, 6, 1)
        self.assertEqual(len(parts(more)), 1)
        self.assertFalse(is_stout(more, 0))
        self.assertEqual(len(slow_rows(more, 1, 6)), 1)
        self.assertEqual(len(parts(without_link(more, 1, 6))), 2)
