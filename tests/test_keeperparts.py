from random import Random

from making import Case, crowded, full, grid, line, ring, side_by_side, slow_parts, slow_sides

from pairfloors.errors import BadNumber, BadWeighing
from pairfloors.keeperparts import keeper_of, keeper_parts
from pairfloors.keepers import coat_keeper, is_keeper
from pairfloors.webs import Web
from pairfloors.worlds import World

WEBS = (line(1), line(2), line(3), ring(3), ring(4), ring(5), grid(2, 3), full(4), side_by_side(ring(3), line(1), grid(2, 2)))
MODULI = (0, 2, 3, 4, 6, 9, 10 ** 6)


def random_parts(world, modulus, chance):
    """A base and bends as the document lets them be, not only rests."""
    base = tuple(chance.randint(-10 ** 9, 10 ** 9) for _ in range(world.web.size))
    shades, bends = slow_sides(world.web), []
    for part in slow_parts(world.web):
        if shades[part[0]] >= 0:
            row = [chance.randint(-99, 99) for _ in range(world.coats)]
        elif modulus == 0:
            row = [0] * world.coats
        else:
            step = modulus // 2 if modulus % 2 == 0 else modulus
            row = [step * chance.randint(-3, 3) for _ in range(world.coats)]
        bends.append((0,) + tuple(row[1:]))
    return base, tuple(bends)


def rests(rows, modulus):
    return tuple(tuple(number % modulus if modulus else number for number in row) for row in rows)


class Parts(Case):
    def test_example(self):
        world, weighing = World(line(2), 2), ((5, 6), (2, 1))
        self.assertEqual(keeper_parts(world, weighing, 0), ((5, 2), ((0, 1),)))
        self.assertEqual(keeper_parts(world=world, weighing=weighing, modulus=3), ((2, 2), ((0, 1),)))
        self.assertEqual(keeper_of(world, (2, 2), ((0, 1),), 3), ((2, 0), (2, 1)))
        self.assertEqual(keeper_of(world=world, base=(5, 2), bends=((0, 1),), modulus=0), weighing)

    def test_there_and_back(self):
        chance = Random(41)
        for web in WEBS:
            for coats in (2, 3, 6):
                world = World(web, coats)
                for modulus in MODULI:
                    base, bends = random_parts(world, modulus, chance)
                    weighing = keeper_of(world, base, bends, modulus)
                    self.is_true(is_keeper(world, weighing, modulus))
                    self.assertEqual(weighing, rests(weighing, modulus))
                    told = keeper_parts(world, weighing, modulus)
                    self.assertEqual(told, (rests((base,), modulus)[0], rests(bends, modulus)))
                    self.assertEqual(keeper_of(world, told[0], told[1], modulus), weighing)

    def test_base_and_bends_make_the_keeper(self):
        chance = Random(43)
        for web in WEBS:
            world, shades = World(web, 3), slow_sides(web)
            for modulus in MODULI:
                base, bends = random_parts(world, modulus, chance)
                weighing = keeper_of(world, base, bends, modulus)
                for part, bend in zip(slow_parts(web), bends):
                    for x in part:
                        sign = -1 if shades[x] == 1 else 1
                        row = tuple(base[x] + sign * number for number in bend)
                        self.assertEqual(weighing[x], rests((row,), modulus)[0])

    def test_of_keepers_that_are_no_rests(self):
        world = World(grid(2, 2), 2)
        self.assertEqual(
            keeper_parts(world, ((-1, -7), (9, 15), (0, 6), (3, -3)), 0), ((-1, 9, 0, 3), ((0, -6),)),
        )
        self.assertEqual(
            keeper_parts(world, ((-1, -7), (9, 15), (0, 6), (3, -3)), 4), ((3, 1, 0, 3), ((0, 2),)),
        )

    def test_one_sided_parts(self):
        world = World(full(4), 3)
        self.assertEqual(keeper_parts(world, coat_keeper(world, 0, 1), 2), ((0,) * 4, ((0, 1, 0),)))
        # Coat 0 has all of it: so the others have less, which is the same by the modulus 2.
        self.assertEqual(keeper_parts(world, coat_keeper(world, 0, 0), 2), ((1,) * 4, ((0, 1, 1),)))
        for modulus in (0, 3, 4, 5):
            self.assertIsNone(keeper_parts(world, coat_keeper(world, 0, 1), modulus))
        half = ((1, 4, 1), (2, 5, 2), (3, 6, 3), (0, 3, 0))
        self.assertEqual(keeper_parts(world, half, 6), ((1, 2, 3, 0), ((0, 3, 0),)))
        self.assertEqual(keeper_of(world, (1, 2, 3, 0), ((0, 3, 0),), 6), ((1, 4, 1), (2, 5, 2), (3, 0, 3), (0, 3, 0)))

    def test_a_dot_may_have_any_bend(self):
        world = World(Web(2, ()), 3)
        weighing = ((5, -10 ** 20, 7), (0, 1, 2))
        self.assertEqual(keeper_parts(world, weighing, 0), ((5, 0), ((0, -10 ** 20 - 5, 2), (0, 1, 2))))
        self.assertEqual(keeper_of(world, (5, 0), ((0, -10 ** 20 - 5, 2), (0, 1, 2)), 0), weighing)
        self.assertEqual(keeper_parts(world, weighing, 2), ((1, 0), ((0, 1, 0), (0, 1, 0))))

    def test_bends_are_in_the_order_of_parts(self):
        world = World(Web(5, ((0, 3), (1, 4))), 2)
        self.assertEqual(keeper_of(world, (0,) * 5, ((0, 1), (0, 2), (0, 3)), 0), ((0, 1), (0, 2), (0, 3), (0, -1), (0, -2)))
        told = keeper_parts(world, ((0, 1), (0, 2), (0, 3), (0, -1), (0, -2)), 0)
        self.assertEqual(told, ((0,) * 5, ((0, 1), (0, 2), (0, 3))))

    def test_none_for_what_is_no_keeper(self):
        world = World(line(2), 2)
        self.assertIsNone(keeper_parts(world, ((0, 1), (0, 1)), 0))
        self.assertIsNone(keeper_parts(world, ((0, 1), (0, 1)), 3))
        self.assertEqual(keeper_parts(world, ((0, 1), (0, 1)), 2), ((0, 0), ((0, 1),)))

    def test_errors(self):
        world = World(line(2), 2)
        for weighing in ((), ((0,),), ((0, 1),), ((0, 1),) * 3):
            self.refuses(BadWeighing, len(weighing), keeper_parts, world, weighing, 1)
        self.refuses(BadWeighing, 0, keeper_parts, world, ((0,), (0, 1, 2)), 1)
        self.refuses(BadWeighing, 1, keeper_parts, world, ((0, 1), (0, 1, 2)), 0)
        for modulus in (1, -1, -2, 10 ** 6 + 1, -10 ** 30):
            for weighing in (((0, 1), (0, -1)), ((0, 1), (0, 1))):
                self.refuses(BadNumber, modulus, keeper_parts, world, weighing, modulus)

    def test_at_the_limits(self):
        world = World(crowded(), 6)
        base = tuple(range(40))
        weighing = keeper_of(world, base, ((0, 1, 0, 1, 0, 1),) * 5, 2)
        self.assertEqual(keeper_parts(world, weighing, 2)[0], tuple(x % 2 for x in base))
