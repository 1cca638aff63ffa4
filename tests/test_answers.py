from random import Random

from making import (
    Case, all_floors, crowded, full, grid, line, made, random_floor, random_run, renamed, ring, side_by_side,
    slow_classes, slow_core, slow_kind, slow_odd, slow_parts, slow_ring_row, slow_sides, slow_still, slow_surplus,
    some_webs, two_rows,
)

from pairfloors.answers import answer, same
from pairfloors.errors import BadCoat, BadSize, Narrow
from pairfloors.webs import Web
from pairfloors.worlds import World


def slow_answer(world, floor, chance):
    """The answer by the document, or the least cell of the first narrow part that is not still."""
    web, rows = world.web, []
    for part in slow_parts(web):
        name = slow_kind(web, part[0])
        if slow_still(world, floor, part):
            rows.append(("still", tuple(floor[x] for x in part)))
        elif name == "narrow":
            return part[0]
        elif name == "ring":
            rows.append(("ring", slow_core(tuple(floor[x] for x in slow_ring_row(web, part)), chance)))
        elif slow_sides(web)[part[0]] < 0:
            rows.append(("odd", slow_odd(world, floor, part)))
        else:
            rows.append(("sides", slow_surplus(world, floor, part)))
    return tuple(rows)


def small_worlds():
    """Worlds of few floors, with several tables."""
    webs = [(line(1), 2), (line(1), 6), (line(2), 3), (ring(3), 2), (ring(3), 4), (ring(4), 2), (ring(4), 4), (ring(5), 3),
            (ring(6), 2), (ring(7), 2), (full(4), 2), (full(4), 4), (full(5), 3), (grid(2, 3), 2), (two_rows(2, 3), 3),
            (side_by_side(ring(3), line(1)), 3), (side_by_side(line(2), ring(3)), 3), (side_by_side(ring(4), line(2)), 2),
            (side_by_side(full(4), ring(3)), 2), (renamed(ring(6), 3), 3), (renamed(grid(2, 3), 8), 3), (line(4), 3)]
    tables = {2: (None,), 3: (None, ((0, 1), (1, 2)), ((0, 2), (1, 2))), 4: (None, ((0, 1), (0, 3), (2, 3))), 6: (None,)}
    return [World(web, coats, table=tables[coats][-1]) for web, coats in webs] + [World(ring(5), 3), World(grid(2, 2), 3)]


class Answers(Case):
    def test_examples(self):
        self.assertEqual(answer(World(grid(2, 3), 3), (0, 0, 1, 1, 2, 0)), (("sides", (-1, 0, 1)),))
        self.assertEqual(answer(world=World(ring(5), 3), floor=(0, 1, 1, 0, 2)), (("ring", (2,)),))
        self.assertEqual(answer(World(ring(5), 3), (0, 1, 0, 1, 2)), (("still", (0, 1, 0, 1, 2)),))
        self.assertEqual(answer(World(Web(2, ()), 2), (1, 0)), (("still", (1,)), ("still", (0,))))
        self.assertEqual(answer(World(full(4), 3), (0, 1, 1, 2)), (("odd", (0, 2)),))

    def test_by_the_document(self):
        chance = Random(73)
        for web in some_webs():
            for coats in (2, 3, 6):
                world = World(web, coats)
                for _ in range(4):
                    self.check(world, random_floor(world, chance), chance)

    def check(self, world, floor, chance):
        expected = slow_answer(world, floor, chance)
        if isinstance(expected, tuple):
            self.assertEqual(answer(world, floor), expected)
            self.is_true(same(world, floor, floor))
        else:
            self.refuses(Narrow, expected, answer, world, floor)
            self.refuses(Narrow, expected, same, world, floor, floor)

    def test_parts_that_are_still_whatever_their_kind(self):
        world = World(side_by_side(line(1), line(3), ring(4), full(3), full(4), ring(6)), 4)
        floor = (3,) + (0, 1, 0) + (0, 1, 0, 2) + (1, 0, 2) + (0, 1, 2, 3) + (0, 1, 2, 0, 1, 2)
        rows = [(3,), (0, 1, 0), (0, 1, 0, 2), (1, 0, 2), (0, 1, 2, 3), (0, 1, 2, 0, 1, 2)]
        self.assertEqual(answer(world, floor), tuple(("still", row) for row in rows))

    def test_cells_of_a_part_that_do_not_stand_side_by_side(self):
        world = World(Web(6, ((0, 2), (0, 5), (1, 3), (2, 5))), 3)
        self.assertEqual(answer(world, (0, 1, 1, 0, 2, 2)), (("still", (0, 1, 2)), ("still", (1, 0)), ("still", (2,))))
        self.assertEqual(answer(world, (0, 1, 1, 0, 2, 1)), (("ring", (0,)), ("still", (1, 0)), ("still", (2,))))
        self.refuses(Narrow, 1, answer, world, (0, 1, 1, 1, 2, 1))

    def test_narrow_parts_that_stir(self):
        world = World(side_by_side(grid(2, 2), line(2), line(3)), 2)
        self.refuses(Narrow, 4, answer, world, (0,) * 9)
        self.refuses(Narrow, 6, answer, world, (0,) * 5 + (1,) + (0,) * 3)
        self.assertEqual(
            answer(world, (0,) * 5 + (1, 0, 1, 0)), (("sides", (0, 0)), ("still", (0, 1)), ("still", (0, 1, 0)))
        )

    def test_floors_are_checked_first(self):
        world = World(line(3), 2)
        self.refuses(BadSize, 2, answer, world, (9, 9))
        self.refuses(BadCoat, 1, answer, world, (0, 2, 9))
        self.refuses(BadSize, 2, same, world, (0, 0), (0, 9, 0))
        self.refuses(BadCoat, 2, same, world, (0, 0, 2), (0, 9))
        # The second floor is checked before the first one is found to stir.
        self.refuses(BadSize, 4, same, world, (0, 0, 0), (0, 0, 0, 0))
        self.refuses(BadCoat, 0, same, world, (0, 0, 0), (-1, 0, 0))

    def test_narrow_by_one_before_two(self):
        world = World(side_by_side(line(2), line(2)), 2)
        still, first, second, both = (0, 1, 0, 1), (0, 0, 0, 1), (0, 1, 0, 0), (0, 0, 1, 1)
        self.is_true(same(world, still, still))
        self.is_false(same(world=world, one=still, two=(1, 0, 1, 0)))
        self.refuses(Narrow, 2, same, world, second, first)
        self.refuses(Narrow, 0, same, world, first, second)
        self.refuses(Narrow, 0, same, world, still, first)
        self.refuses(Narrow, 2, same, world, still, second)
        self.refuses(Narrow, 0, same, world, both, second)

    def test_the_same_by_all_runs(self):
        for world in small_worlds():
            classes = slow_classes(world)
            answers = {}
            for floor in all_floors(world):
                try:
                    answers[floor] = answer(world, floor)
                except Narrow:
                    continue
            by_answer = {}
            for floor, told in answers.items():
                by_answer.setdefault(told, set()).add(classes[floor])
            # Equal answers only within one class, and each class under one answer.
            self.assertTrue(all(len(held) == 1 for held in by_answer.values()))
            held = [least for rows in by_answer.values() for least in rows]
            self.assertEqual(len(held), len(set(held)))

    def test_same(self):
        world = World(grid(2, 2), 2)
        self.is_true(same(world, (0, 0, 1, 1), (1, 1, 0, 0)))
        self.is_false(same(world, (0, 0, 0, 0), (0, 0, 0, 1)))
        # A still floor has the surplus of others, but is the same as itself alone.
        world = World(grid(2, 2), 3)
        self.is_false(same(world, (0, 1, 2, 0), (0, 2, 1, 0)))
        self.is_false(same(World(ring(5), 3), (0, 0, 0, 1, 2), (0, 0, 0, 2, 1)))
        self.is_true(same(World(ring(5), 3), (0, 0, 0, 1, 2), (1, 2, 0, 0, 0)))

    def test_no_deed_changes_an_answer(self):
        chance = Random(79)
        for web in (grid(3, 4), ring(9), ring(8), full(6), side_by_side(ring(5), ring(4), line(1), full(4))):
            world = World(web, 4, table=((0, 1), (0, 2), (2, 3)))
            _, trail = random_run(world, (0,) * web.size, 60, chance)
            self.assertEqual(len({answer(world, floor) for floor in trail}), 1)
            self.is_true(same(world, trail[0], trail[-1]))

    def test_at_the_limits(self):
        self.assertEqual(answer(World(crowded(), 6), (1,) * 39 + (0,)), (("odd", (0, 1)),))
        self.assertEqual(answer(World(ring(40), 6), (0, 0) + (3, 4) * 19), (("ring", (3, 4) * 19),))
        self.assertEqual(answer(World(Web(40, ()), 6), (5,) * 40), (("still", (5,)),) * 40)
        self.assertEqual(answer(World(grid(5, 8), 2), (1,) * 40), (("sides", (0, 0)),))
        self.refuses(Narrow, 0, answer, World(made(40, [(x, 39) for x in range(39)]), 2), (0,) * 40)
