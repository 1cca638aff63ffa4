from making import Case, all_floors, all_tables, collar, full, grid, line, made, renamed, ring, side_by_side, slow_classes, two_rows

from pairfloors.answers import answer
from pairfloors.classes import class_row
from pairfloors.errors import TooLarge
from pairfloors.floornumbers import floor_at, floor_number
from pairfloors.webs import Web
from pairfloors.worlds import World

TAILED = made(5, list(ring(3).links) + [(0, 3), (3, 4)])
WEBS = (
    line(1), line(2), line(3), line(6), ring(3), ring(5), ring(6), grid(2, 2), grid(2, 3), full(4), full(5), two_rows(2, 3), two_rows(1, 5),
    TAILED, Web(2, ()), Web(4, ()), side_by_side(ring(3), line(2)), side_by_side(line(1), ring(4)), renamed(line(5), 3), collar(3),
    renamed(side_by_side(line(3), line(3)), 2),
)


class ClassRow(Case):
    def test_example(self):
        row = class_row(world=World(grid(2, 2), 3))
        self.assertEqual((row[63], row[5]), (5, 5))
        self.assertIs(row.__class__, tuple)
        self.assertEqual(class_row(World(line(1), 6)), (0, 1, 2, 3, 4, 5))
        self.assertEqual(class_row(World(line(2), 2)), (0, 1, 2, 0))

    def test_by_deeds(self):
        for web in WEBS:
            for coats in (2, 3, 4) if web.size < 5 else (2, 3):
                world = World(web, coats)
                least = slow_classes(world)
                floors = sorted(all_floors(world))
                number = {floor: n for n, floor in enumerate(floors)}
                self.assertEqual(class_row(world), tuple(number[least[floor]] for floor in floors), (web.links, coats))

    def test_tables_do_not_matter(self):
        for web in (ring(3), grid(2, 2), line(4), side_by_side(line(2), line(2)), full(4)):
            row = class_row(World(web, 3))
            for table in all_tables(3):
                self.assertEqual(class_row(World(web, 3, table=table)), row)
        row = class_row(World(grid(2, 3), 4))
        for table in (((0, 1), (1, 2), (2, 3)), ((0, 3), (1, 3), (2, 3)), ((0, 2), (0, 3), (1, 3))):
            self.assertEqual(class_row(World(grid(2, 3), 4, table=table)), row)

    def test_equal_answers(self):
        for web, coats in ((grid(2, 4), 3), (ring(8), 3), (ring(7), 3), (full(6), 3), (side_by_side(ring(3), grid(2, 2), line(1)), 2)):
            world = World(web, coats)
            first = {}
            answers = [answer(world, floor_at(world, n)) for n in range(coats ** web.size)]
            for n, told in enumerate(answers):
                first.setdefault(told, n)
            self.assertEqual(class_row(world), tuple(first[told] for told in answers))

    def test_the_limit(self):
        for coats, most in ((2, 14), (3, 9), (4, 7), (5, 6), (6, 5)):
            row = class_row(World(ring(most), coats))
            self.assertEqual(len(row), coats ** most)
            self.assertEqual(row[floor_number(World(ring(most), coats), (coats - 1,) * most)], (coats - 1) * (most % 2))
            self.refuses(TooLarge, coats ** (most + 1), class_row, World(ring(most + 1), coats))
        self.assertEqual(class_row(World(full(14), 2))[2 ** 14 - 1], 0)
        self.refuses(TooLarge, 6 ** 40, class_row, World(Web(40, ()), 6))
        self.assertEqual(class_row(World(Web(14, ()), 2)), tuple(range(2 ** 14)))
