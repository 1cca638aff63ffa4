from making import NO_PAIRS, Case, crowded, line, linked, near, side_by_side, some_webs

from pairfloors.errors import BadCell, BadLink, BadSize, TooMany
from pairfloors.webs import Web


class Made(Case):
    def test_fields(self):
        links = ((0, 1), (0, 3), (1, 2))
        web = Web(4, links)
        self.is_web(web, 4, links)
        self.is_web(Web(links=links, size=4), 4, links)

    def test_one_cell_and_forty(self):
        self.is_web(Web(1, ()), 1, ())
        self.is_web(Web(40, ()), 40, ())
        self.is_web(Web(40, ((0, 39), (38, 39))), 40, ((0, 39), (38, 39)))

    def test_most_links(self):
        self.assertEqual(len(crowded().links), 160)

    def test_bad_size(self):
        for size in (0, -1, 41, 10 ** 30, -10 ** 30):
            self.refuses(BadSize, size, Web, size, ())

    def test_too_many(self):
        self.refuses(TooMany, 161, crowded, 40, 161)
        self.refuses(TooMany, 300, crowded, 40, 300)

    def test_bad_link(self):
        for link in ((0, 0), (1, 0), (-1, 1), (0, 3), (2, 3), (3, 4), (0, 10 ** 30), (-10 ** 30, 0), (-2, -1)):
            self.refuses(BadLink, 0, Web, 3, (link,))
            self.refuses(BadLink, 1, Web, 3, ((0, 1), link))
        self.refuses(BadLink, 0, Web, 1, ((0, 0),))
        self.refuses(BadLink, 0, Web, 1, ((0, 1),))
        self.refuses(BadLink, 0, Web, 40, ((0, 40),))

    def test_links_that_do_not_ascend(self):
        self.refuses(BadLink, 1, Web, 3, ((0, 1), (0, 1)))
        self.refuses(BadLink, 1, Web, 3, ((0, 2), (0, 1)))
        self.refuses(BadLink, 1, Web, 3, ((1, 2), (0, 2)))
        self.refuses(BadLink, 2, Web, 3, ((0, 1), (1, 2), (0, 2)))
        # The entry after a descent is compared with the link before it, not with the greatest one.
        self.refuses(BadLink, 1, Web, 3, ((1, 2), (0, 1), (0, 2)))

    def test_links_that_are_no_pairs(self):
        for bad in NO_PAIRS:
            self.refuses(BadLink, 0, Web, 4, (bad,))
            self.refuses(BadLink, 1, Web, 4, ((0, 1), bad, (0, 1)))

    def test_the_least_index_counts(self):
        self.refuses(BadLink, 1, Web, 4, ((0, 2), (0, 1), (3, 9)))
        self.refuses(BadLink, 1, Web, 4, ((0, 2), (3, 9), (0, 1)))

    def test_order_of_errors(self):
        bad = ((5, 5),) * 161
        self.refuses(BadSize, 0, Web, 0, bad)
        self.refuses(BadSize, 41, Web, 41, bad)
        self.refuses(TooMany, 161, Web, 4, bad)
        self.refuses(BadLink, 0, Web, 4, bad[:160])


class Near(Case):
    def test_against_the_links(self):
        for web in some_webs() + [crowded()]:
            for x in range(web.size):
                self.assertEqual(web.near(x), near(web, x))
                self.assertEqual(web.near(x=x), near(web, x))
                for y in range(web.size):
                    self.assertIs(web.linked(x, y), linked(web, x, y))
                    self.assertIs(web.linked(y=y, x=x), linked(web, x, y))

    def test_near_is_a_tuple_and_ascending(self):
        web = Web(5, ((0, 3), (1, 3), (2, 3), (3, 4)))
        self.assertEqual(web.near(3), (0, 1, 2, 4))
        self.assertEqual(web.near(4), (3,))
        self.assertEqual(line(1).near(0), ())

    def test_near_refuses_what_is_no_cell(self):
        for web in (line(1), line(4), side_by_side(line(2), line(2)), crowded()):
            for x in (-1, -web.size, web.size, web.size + 1, 10 ** 30, -10 ** 30):
                self.refuses(BadCell, x, web.near, x)

    def test_linked_takes_any_numbers(self):
        web = line(3)
        for x in (-3, -2, -1, 3, 4, 10 ** 30, -10 ** 30):
            for y in (-3, -1, 0, 1, 2, 3, 10 ** 30):
                self.is_false(web.linked(x, y))
                self.is_false(web.linked(y, x))
        for x in range(3):
            self.is_false(web.linked(x, x))

    def test_asking_changes_nothing(self):
        links = ((0, 1), (1, 2))
        web = Web(3, links)
        for _ in range(2):
            self.assertEqual((web.near(1), web.linked(0, 2), web.linked(2, 1)), ((0, 2), False, True))
        self.is_web(web, 3, ((0, 1), (1, 2)))
