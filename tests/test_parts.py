from making import Case, crowded, grid, line, renamed, ring, side_by_side, slow_part, slow_parts, some_webs

from pairfloors.errors import BadCell
from pairfloors.parts import part_of, part_web, parts
from pairfloors.webs import Web


class Parts(Case):
    def test_by_the_document(self):
        for web in some_webs():
            self.assertEqual(parts(web), slow_parts(web))
            for x in range(web.size):
                self.assertEqual(part_of(web, x), slow_part(web, x))

    def test_parts_that_lie_between_one_another(self):
        web = Web(6, ((0, 4), (1, 3), (3, 5)))
        self.assertEqual(parts(web), ((0, 4), (1, 3, 5), (2,)))
        self.assertEqual(part_of(web, 5), (1, 3, 5))
        self.assertEqual(part_of(web=web, x=2), (2,))

    def test_edges(self):
        self.assertEqual(parts(line(1)), ((0,),))
        self.assertEqual(parts(Web(40, ())), tuple((x,) for x in range(40)))
        self.assertEqual(parts(crowded()), (tuple(range(40)),))
        self.assertEqual(parts(line(40)), (tuple(range(40)),))

    def test_part_webs(self):
        for web in some_webs():
            for x in range(web.size):
                part = slow_part(web, x)
                links = [(part.index(a), part.index(b)) for a, b in web.links if a in part]
                self.is_web(part_web(web, x), len(part), links)

    def test_part_web_numbers_anew(self):
        web = Web(6, ((0, 4), (1, 3), (3, 5)))
        self.is_web(part_web(web, 3), 3, ((0, 1), (1, 2)))
        self.is_web(part_web(web, 4), 2, ((0, 1),))
        self.is_web(part_web(x=2, web=web), 1, ())
        self.is_web(web, 6, ((0, 4), (1, 3), (3, 5)))

    def test_a_part_web_of_all_cells_is_alike(self):
        for web in (crowded(), renamed(grid(5, 8), 3), ring(40)):
            self.is_web(part_web(web, 7), web.size, web.links)

    def test_no_cell(self):
        web = side_by_side(line(2), ring(3))
        for x in (-1, 5, 10 ** 30, -10 ** 30):
            self.refuses(BadCell, x, part_of, web, x)
            self.refuses(BadCell, x, part_web, web, x)
