from random import Random

from making import (
    Case, all_floors, collar, crowded, full, grid, line, made, random_floor, random_run, renamed, ring, side_by_side,
    slow_after, slow_classes, slow_deeds, slow_parts, slow_sides, stout_webs, two_rows,
)

from pairfloors.answers import answer
from pairfloors.errors import BadCoat, BadSize, Narrow, NotSame, TooLarge
from pairfloors.floors import stirs
from pairfloors.leads import lead, lead_home
from pairfloors.normals import normal
from pairfloors.runs import replayed, run_right
from pairfloors.worlds import World

RINGS = [ring(n) for n in (3, 5, 6, 7, 8, 9, 10, 11, 12)] + [renamed(ring(n), n) for n in (5, 6, 11, 12)]


def some_tables(coats):
    return (None, tuple((c, c + 1) for c in range(coats - 1)), tuple((0, c) for c in range(1, coats)))


def disturbed(world, floor, chance):
    """A floor that is the same, many deeds away."""
    return random_run(World(world.web, world.coats), floor, 40, chance)[1][-1]


def reordered(world, floor, chance):
    """The floor with its coats in disorder on the sides of each part."""
    cells, shades = list(floor), slow_sides(world.web)
    for part in slow_parts(world.web):
        for side in (-1, 0, 1):
            pool = [x for x in part if shades[x] == side]
            coats = chance.sample([floor[x] for x in pool], len(pool))
            for x, coat in zip(pool, coats):
                cells[x] = coat
    return tuple(cells)


def stirring(world, chance):
    """A floor that stirs, with all coats if there is room."""
    floor = random_floor(world, chance)
    for part in slow_parts(world.web):
        links = [link for link in world.web.links if link[0] in part]
        if links:
            x, y = chance.choice(links)
            floor = slow_after(floor, (x, y, chance.randrange(world.coats)))
    return floor


class Leads(Case):
    def right(self, world, one, two, run):
        """Whether the run leads from one to two, within the bound, and leaves parts alone that do not differ."""
        self.is_true(run_right(world, one, two, run))
        times = 1 if len(world.table) == world.coats * (world.coats - 1) // 2 else world.coats - 1
        for part in slow_parts(world.web):
            links = [link for link in world.web.links if link[0] in part]
            deeds = [deed for deed in run if deed[0] in part]
            if all(one[x] == two[x] for x in part):
                self.assertEqual(deeds, [])
            self.assertLessEqual(len(deeds), times * 6 * len(links) * len(part) ** 3)

    def there_and_home(self, world, one, two):
        self.right(world, one, normal(world, one), lead_home(world, one))
        self.right(world, one, two, lead(world, one, two))
        self.right(world, two, one, lead(world, two, one))
        self.assertEqual(lead_home(world, normal(world, one)), ())
        self.assertEqual(lead(world, one, one), ())

    def test_examples(self):
        world = World(grid(2, 2), 2)
        self.right(world, (0, 0, 1, 1), (1, 1, 0, 0), lead(world=world, one=(0, 0, 1, 1), two=(1, 1, 0, 0)))
        world = World(grid(2, 3), 3)
        self.right(world, (0, 0, 1, 1, 2, 0), (2, 0, 0, 0, 0, 0), lead_home(world=world, floor=(0, 0, 1, 1, 2, 0)))
        world = World(ring(5), 3)
        self.right(world, (0, 1, 1, 0, 2), (2, 0, 0, 0, 0), lead_home(world, (0, 1, 1, 0, 2)))

    def test_stout_webs(self):
        chance = Random(131)
        for web in stout_webs():
            for coats in (2, 3, 6):
                for table in some_tables(coats)[:2]:
                    world = World(web, coats, table=table)
                    one = stirring(world, chance)
                    self.there_and_home(world, one, disturbed(world, one, chance))
                    two = reordered(world, one, chance)
                    if stirs(world, two, 0):
                        self.there_and_home(world, one, two)

    def test_rings(self):
        chance = Random(137)
        for web in RINGS:
            for coats in (2, 3, 6):
                for table in some_tables(coats):
                    world = World(web, coats, table=table)
                    one = stirring(world, chance)
                    self.there_and_home(world, one, disturbed(world, one, chance))

    def test_each_class_of_small_worlds(self):
        for web, coats in ((ring(3), 3), (ring(4), 2), (ring(5), 3), (ring(6), 2), (ring(6), 3), (ring(7), 2), (full(4), 3),
                           (grid(2, 3), 2), (two_rows(2, 3), 3), (collar(3), 2), (renamed(ring(7), 6), 2)):
            world = World(web, coats)
            classes = slow_classes(world)
            for floor in all_floors(world):
                self.right(world, floor, normal(world, floor), lead_home(world, floor))
                # From the normal floor to the least floor that is the same, and so over the letters turned.
                self.right(world, classes[floor], floor, lead(world, classes[floor], floor))

    def test_cores_that_have_to_be_turned(self):
        for n, core in ((5, (0, 1, 2)), (8, (0, 1, 0, 2)), (9, (0, 1, 2, 0, 1, 2, 3)), (12, (0, 1, 0, 1, 0, 2, 1, 2, 1, 3)),
                        (11, (0, 1, 2, 3, 4)), (12, (3, 4))):
            world = World(ring(n), 5)
            many = len(core)
            for by in range(0, many, 2 if n % 2 == 0 else 1):
                turned = core[by:] + core[:by]
                for coat in (0, 4):
                    one = turned + (coat,) * (n - many)
                    self.there_and_home(world, one, one)
                    self.right(world, one, core + (0,) * (n - many), lead(world, one, core + (0,) * (n - many)))

    def test_stirring_only_over_the_seam(self):
        for n in (3, 5, 6, 12):
            world = World(ring(n), 3)
            one = tuple((1, 2)[x % 2] for x in range(n - 1)) + (1,)
            self.there_and_home(world, one, disturbed(world, one, Random(n)))

    def test_several_parts(self):
        chance = Random(139)
        webs = [side_by_side(grid(2, 2), line(1), full(4), ring(5)), renamed(side_by_side(ring(6), ring(3), grid(2, 3), line(1)), 9),
                side_by_side(grid(3, 4), ring(12), two_rows(4, 6))]
        for web in webs:
            for table in some_tables(4):
                world = World(web, 4, table=table)
                one = stirring(world, chance)
                self.there_and_home(world, one, disturbed(world, one, chance))

    def test_parts_that_do_not_differ(self):
        world = World(side_by_side(grid(2, 2), ring(5)), 2)
        one, two = (0, 0, 1, 1) + (1, 1, 0, 1, 0), (1, 1, 0, 0) + (1, 1, 0, 1, 0)
        self.right(world, one, two, lead(world, one, two))
        self.assertTrue(all(deed[0] < 4 for deed in lead(world, one, two)))
        self.assertEqual(lead(world, one, one), ())

    def test_still_on_one_part_and_stirring_on_another(self):
        world = World(side_by_side(line(3), grid(2, 2), ring(5), full(4)), 4)
        one = (0, 1, 0) + (0, 1, 1, 2) + (0, 0, 2, 1, 1) + (0, 1, 2, 3)
        two = (0, 1, 0) + (0, 1, 1, 2) + (2, 1, 1, 3, 3) + (0, 1, 2, 3)
        self.there_and_home(world, one, two)

    def test_floors_that_are_still_everywhere(self):
        world = World(side_by_side(line(2), ring(4), line(1)), 2)
        self.assertEqual(lead_home(world, (0, 1, 0, 1, 0, 1, 1)), ())
        self.assertEqual(lead(world, (0, 1, 0, 1, 0, 1, 1), (0, 1, 0, 1, 0, 1, 1)), ())
        self.refuses(NotSame, 2, lead, world, (0, 1, 0, 1, 0, 1, 1), (0, 1, 1, 0, 1, 0, 1))

    def test_the_largest_parts(self):
        chance = Random(149)
        for web in (crowded(12, 24), grid(3, 4), two_rows(2, 10), two_rows(3, 8), two_rows(4, 6), collar(6), ring(12)):
            self.assertTrue(web.size <= 12 and len(web.links) <= 24)
            for coats in (2, 6):
                world = World(web, coats, table=some_tables(coats)[1])
                for _ in range(3):
                    one = stirring(world, chance)
                    self.there_and_home(world, one, disturbed(world, one, chance))

    def test_long_walks_home(self):
        # All deeds that are let, from one floor on, whatever the table.
        world = World(grid(2, 3), 3, table=((0, 2), (1, 2)))
        for deed in slow_deeds(world, (0, 0, 0, 0, 0, 1)):
            self.there_and_home(world, (0, 0, 0, 0, 0, 1), slow_after((0, 0, 0, 0, 0, 1), deed))


class Refusals(Case):
    def test_errors_of_floors(self):
        world = World(side_by_side(line(2), line(2)), 2)
        still, first, second = (0, 1, 0, 1), (0, 0, 0, 1), (0, 1, 0, 0)
        self.refuses(BadSize, 2, lead_home, world, (9, 9))
        self.refuses(BadCoat, 1, lead_home, world, (0, 2, 9, 0))
        self.refuses(Narrow, 0, lead_home, world, (0, 0, 0, 0))
        self.refuses(Narrow, 2, lead_home, world, second)
        self.refuses(BadSize, 2, lead, world, (9, 9), (9,))
        self.refuses(BadCoat, 3, lead, world, (0, 0, 0, 2), (9,))
        self.refuses(BadSize, 1, lead, world, first, (9,))
        self.refuses(BadCoat, 0, lead, world, first, (-1, 0, 0, 0))
        self.refuses(Narrow, 2, lead, world, second, first)
        self.refuses(Narrow, 0, lead, world, still, first)
        self.refuses(NotSame, 0, lead, world, still, (1, 0, 1, 0))

    def test_not_the_same(self):
        world = World(side_by_side(grid(2, 2), ring(5), full(4)), 3)
        one = (0, 0, 0, 0) + (0, 0, 0, 1, 2) + (0, 0, 1, 2)
        self.refuses(NotSame, 0, lead, world, one, (0, 0, 0, 1) + (0, 0, 0, 2, 1) + (0, 0, 0, 0))
        self.refuses(NotSame, 4, lead, world, one, (1, 1, 2, 2) + (0, 0, 0, 2, 1) + (0, 0, 0, 0))
        self.refuses(NotSame, 9, lead, world, one, (1, 1, 2, 2) + (0, 1, 2, 0, 0) + (0, 0, 0, 0))
        two = (1, 1, 2, 2) + (0, 1, 2, 0, 0) + (2, 1, 1, 1)
        self.assertEqual(answer(world, one), answer(world, two))
        self.assertEqual(replayed(world, one, lead(world, one, two)), two)
        self.refuses(NotSame, 2, lead, World(made(6, [(2, 3), (2, 4), (3, 5), (4, 5)]), 2), (0,) * 6, (0,) * 5 + (1,))
        self.refuses(NotSame, 0, lead, World(made(6, [(2, 3), (2, 4), (3, 5), (4, 5)]), 2), (0,) * 6, (1,) * 5 + (0,))

    def test_too_large(self):
        for web in (grid(2, 7), ring(13), ring(40), crowded(), grid(5, 8), crowded(12, 25), full(8), crowded(13, 24)):
            world = World(web, 2)
            one = (0,) * web.size
            x, y = web.links[0]
            two = slow_after(one, (x, y, 1))
            self.assertEqual(lead_home(world, one), ())
            self.assertEqual(lead(world, two, two), ())
            self.refuses(TooLarge, web.size, lead_home, world, two)
            self.refuses(TooLarge, web.size, lead, world, one, two)
            self.refuses(TooLarge, web.size, lead, world, two, one)

    def test_too_large_is_told_last_and_of_parts_that_differ(self):
        world = World(side_by_side(grid(2, 7), ring(13), grid(2, 2)), 3)
        zero, off = (0,) * 31, (1, 1) + (0,) * 12
        self.refuses(TooLarge, 14, lead, world, zero, (1, 1) + (0,) * 12 + (1, 1) + (0,) * 15)
        self.refuses(TooLarge, 13, lead, world, zero, (0,) * 14 + (1, 1) + (0,) * 11 + (2, 2, 0, 0))
        self.refuses(TooLarge, 13, lead_home, world, (0,) * 14 + (1, 1) + (0,) * 11 + (2, 2, 0, 0))
        self.refuses(NotSame, 27, lead, world, zero, off + (0,) * 13 + (2, 0, 0, 0))
        two = zero[:27] + (2, 2, 0, 0)
        self.assertEqual(replayed(world, two, lead_home(world, two)), zero)
        self.assertEqual(replayed(world, off + zero[14:], lead(world, off + zero[14:], off + two[14:])), off + two[14:])
        self.refuses(TooLarge, 14, lead_home, world, off + two[14:])
        narrow = World(side_by_side(grid(2, 7), line(2)), 2)
        self.refuses(Narrow, 14, lead_home, narrow, off + (0, 0))
        self.refuses(Narrow, 14, lead, narrow, off + (0, 1), (0,) * 16)
