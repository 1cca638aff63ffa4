from itertools import combinations

from making import NO_PAIRS, Case, loose_coats

from pairfloors.errors import BadTable, Loose
from pairfloors.tables import checked_table


class Tables(Case):
    def test_none_means_all_pairs(self):
        self.assertEqual(checked_table(2, None), ((0, 1),))
        self.assertEqual(checked_table(coats=3, table=None), ((0, 1), (0, 2), (1, 2)))
        for coats in range(2, 7):
            self.assertEqual(checked_table(coats, None), tuple(combinations(range(coats), 2)))

    def test_all_tables_of_few_coats(self):
        for coats in range(2, 5):
            pairs = list(combinations(range(coats), 2))
            for table in [rows for many in range(len(pairs) + 1) for rows in combinations(pairs, many)]:
                loose = loose_coats(coats, table)
                if loose:
                    self.refuses(Loose, loose[0], checked_table, coats, table)
                else:
                    self.assertIs(checked_table(coats, table), table)

    def test_coats_that_hang_together_over_others(self):
        for table in (((0, 5), (1, 2), (1, 5), (2, 4), (3, 4)), tuple((0, c) for c in range(1, 6)),
                      tuple((c, 5) for c in range(5))):
            self.assertIs(checked_table(6, table), table)
            for gone in table:
                left = tuple(pair for pair in table if pair != gone)
                self.refuses(Loose, loose_coats(6, left)[0], checked_table, 6, left)

    def test_the_least_loose_coat(self):
        self.refuses(Loose, 1, checked_table, 2, ())
        self.refuses(Loose, 1, checked_table, 4, ((0, 2), (1, 3)))
        self.refuses(Loose, 3, checked_table, 6, ((0, 2), (1, 2), (3, 4), (3, 5)))
        self.refuses(Loose, 5, checked_table, 6, tuple(combinations(range(5), 2)))
        self.refuses(Loose, 1, checked_table, 6, tuple(combinations(range(1, 6), 2)))

    def test_bad_pairs(self):
        for bad in ((0, 0), (1, 0), (2, 1), (-1, 0), (0, 3), (2, 3), (3, 4), (0, 10 ** 30), (-10 ** 30, 0), (2, 2)):
            self.refuses(BadTable, 0, checked_table, 3, (bad,))
            self.refuses(BadTable, 0, checked_table, 3, (bad, (0, 1), (1, 2)))
            self.refuses(BadTable, 2, checked_table, 3, ((0, 1), (0, 2), bad))

    def test_entries_that_are_no_pairs(self):
        for bad in NO_PAIRS:
            self.refuses(BadTable, 0, checked_table, 4, (bad,))
            self.refuses(BadTable, 1, checked_table, 4, ((0, 1), bad, (0, 1)))

    def test_pairs_that_do_not_ascend(self):
        self.refuses(BadTable, 1, checked_table, 3, ((0, 1), (0, 1), (1, 2)))
        self.refuses(BadTable, 1, checked_table, 3, ((0, 2), (0, 1)))
        self.refuses(BadTable, 2, checked_table, 3, ((0, 1), (1, 2), (0, 2)))
        self.refuses(BadTable, 3, checked_table, 3, ((0, 1), (0, 2), (1, 2), (1, 2)))

    def test_order_of_errors(self):
        self.refuses(BadTable, 1, checked_table, 6, ((0, 1), (0, 1)))
        self.refuses(BadTable, 1, checked_table, 6, ((0, 2), (0, 1), (9, 9)))
        self.refuses(BadTable, 1, checked_table, 6, ((0, 2), (9, 9), (0, 1)))
        self.refuses(BadTable, 0, checked_table, 6, ((6, 7),))
