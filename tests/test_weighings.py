from random import Random

from making import Case, grid, line, random_floor, ring, side_by_side

from pairfloors.errors import BadCoat, BadNumber, BadSize, BadWeighing
from pairfloors.weighings import weigh
from pairfloors.worlds import World

KEEPER = ((0, 1), (0, -1), (0, -1), (0, 1))


class Weigh(Case):
    def test_example(self):
        world = World(grid(2, 2), 2)
        self.assertEqual(weigh(world, (0, 0, 0, 1), KEEPER, 0), 1)
        self.assertEqual(weigh(world=world, floor=(1, 1, 0, 1), weighing=KEEPER, modulus=0), 1)

    def test_sums_below_zero(self):
        world = World(line(2), 2)
        weighing = ((-5, 3), (-2, 0))
        self.assertEqual(weigh(world, (0, 0), weighing, 0), -7)
        self.assertEqual(weigh(world, (0, 0), weighing, 2), 1)
        self.assertEqual(weigh(world, (0, 0), weighing, 7), 0)
        self.assertEqual(weigh(world, (0, 0), weighing, 5), 3)
        self.assertEqual(weigh(world, (0, 0), weighing, 10 ** 6), 10 ** 6 - 7)
        self.assertEqual(weigh(world, (1, 0), weighing, 3), 1)

    def test_the_least_and_the_greatest_modulus(self):
        world = World(line(1), 2)
        for number in (0, 1, -1, 2, 10 ** 6, 10 ** 6 + 1, -10 ** 30, 10 ** 30 + 1):
            for modulus in (2, 3, 999999, 10 ** 6):
                told = weigh(world, (1,), ((7, number),), modulus)
                self.assertTrue(0 <= told < modulus and (told - number) % modulus == 0)
            self.assertEqual(weigh(world, (1,), ((7, number),), 0), number)

    def test_by_the_document(self):
        chance = Random(29)
        for web in (line(1), ring(5), grid(3, 4), side_by_side(grid(2, 2), line(2))):
            for coats in (2, 3, 6):
                world = World(web, coats)
                weighing = tuple(tuple(chance.randint(-99, 99) for _ in range(coats)) for _ in range(web.size))
                for modulus in (0, 2, 3, 10, 10 ** 6):
                    floor = random_floor(world, chance)
                    total = sum(weighing[x][floor[x]] for x in range(web.size))
                    self.assertEqual(weigh(world, floor, weighing, modulus), total % modulus if modulus else total)

    def test_the_floor_is_checked_first(self):
        world = World(line(2), 2)
        self.refuses(BadSize, 3, weigh, world, (0, 0, 9), ((1,),), 1)
        self.refuses(BadSize, 0, weigh, world, (), (), 1)
        self.refuses(BadCoat, 1, weigh, world, (0, 2), ((1,),), 1)
        self.refuses(BadCoat, 0, weigh, world, (-1, 2), (), -1)

    def test_bad_weighings(self):
        world = World(line(2), 2)
        for weighing in ((), ((0, 0),), ((0,),), ((0, 0),) * 3, ((0, 0), (0, 0), (0,))):
            for modulus in (0, 2, 1, -1):
                self.refuses(BadWeighing, len(weighing), weigh, world, (0, 0), weighing, modulus)
        for weighing, x in ((((0,), (0, 0)), 0), (((0, 0), (0, 0, 0)), 1), (((), ()), 0), (((0, 0), ()), 1)):
            for modulus in (0, 2, 1, 10 ** 6 + 1):
                self.refuses(BadWeighing, x, weigh, world, (0, 0), weighing, modulus)

    def test_bad_moduli(self):
        world = World(line(2), 2)
        for modulus in (1, -1, -2, 10 ** 6 + 1, 10 ** 30, -10 ** 30):
            self.refuses(BadNumber, modulus, weigh, world, (0, 0), ((0, 0), (0, 0)), modulus)
