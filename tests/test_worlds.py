from making import Case, crowded, grid, line

from pairfloors.errors import BadCount, BadTable, Loose
from pairfloors.worlds import World


class Worlds(Case):
    def test_fields(self):
        for web in (line(1), grid(2, 3), crowded()):
            world = World(web, 3, table=((0, 2), (1, 2)))
            self.assertIs(world.web, web)
            self.assertEqual((world.coats, world.table), (3, ((0, 2), (1, 2))))

    def test_the_table_is_always_the_pairs(self):
        for coats in range(2, 7):
            every = tuple((p, r) for p in range(coats) for r in range(p + 1, coats))
            self.assertEqual(World(line(2), coats).table, every)
            self.assertEqual(World(web=line(2), coats=coats, table=None).table, every)
            self.assertEqual(World(line(2), coats, table=every).table, every)

    def test_the_table_goes_by_name_only(self):
        self.assertRaises(TypeError, World, line(2), 2, ((0, 1),))

    def test_bad_counts(self):
        for bad in (1, 0, -1, 7, 10 ** 30, -10 ** 30):
            self.refuses(BadCount, bad, World, line(2), bad)

    def test_bad_tables(self):
        self.refuses(BadTable, 0, World, line(2), 2, table=((1, 0),))
        self.refuses(BadTable, 1, World, line(2), 2, table=((0, 1), (0, 1)))
        self.refuses(BadTable, 1, World, line(2), 3, table=((0, 1), (1, 3)))
        self.refuses(Loose, 1, World, line(2), 2, table=())
        self.refuses(Loose, 2, World, line(2), 3, table=((0, 1),))

    def test_order_of_errors(self):
        self.refuses(BadCount, 7, World, line(2), 7, table=((5, 5),))
        self.refuses(BadCount, 1, World, line(2), 1, table=())
        self.refuses(BadTable, 0, World, line(2), 6, table=((5, 5),))
