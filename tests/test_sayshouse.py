from test_runtext import WRONG

from making import Case, full, grid, line, ring, side_by_side

from pairfloors.errors import (
    BadCell, BadCoat, BadDeed, BadPair, BadRow, BadRun, BadSize, Narrow, NoGoal, NoTrial, NothingToRedo, NothingToUndo, TooMany,
)
from pairfloors.house import House
from pairfloors.sayshouse import told


def seen(house):
    return (house.floor(), house.web().links, house.goal(), house.record(), house.trials())


class Told(Case):
    def test_all_rows(self):
        house = House(grid(2, 3), 3)
        for row, answer in (
            ("floor", "aaaaaa"), ("paint 0 1 2", "ok"), ("floor", "ccaaaa"), ("lay 4-5-1,4-5-2", "ok"), ("floor", "ccaacc"), ("lay .", "ok"),
            ("aim aaaaaa", "ok"), ("can", "yes"), ("kind 5", "stout"), ("trials", "0"), ("begin", "ok"), ("trials", "1"), ("cut 4 1", "ok"),
            ("kind 0", "ring"), ("link 2 0", "ok"), ("kind 5", "narrow"), ("begin", "ok"), ("trials", "2"), ("undo", None), ("drop", "ok"),
            ("undo", "ok"), ("redo", "ok"), ("keep", "ok"), ("trials", "0"), ("undo", "ok"), ("undo", "ok"), ("kind 3", "stout"),
            ("aim aaaaab", "ok"), ("can", "no"),
        ):
            if answer is None:
                self.refuses(NothingToUndo, 0, told, house, row)
            else:
                self.assertEqual(told(house, row), answer, row)
        self.assertEqual(house.record(), (("paint", 0, 1, 2, 0), ("lay", ((4, 5, 1), (4, 5, 2))), ("lay", ()), ("aim", (0,) * 6), ("aim", (0,) * 5 + (1,))))
        self.assertEqual(told(house=house, row="floor"), "ccaacc")

    def test_the_deeds_are_the_deeds_of_the_house(self):
        house = House(line(3), 6)
        for row in ("paint 1 2 5", "lay 1-2-4", "link 2 0", "cut 1 0", "aim abc"):
            self.assertEqual(told(house, row), "ok")
        self.assertEqual(house.record(), (("paint", 1, 2, 5, 0), ("lay", ((1, 2, 4),)), ("link", 0, 2), ("cut", 0, 1), ("aim", (0, 1, 2))))
        for _ in range(5):
            told(house, "undo")
        self.assertEqual(house.record(), ())
        told(house, "redo")
        self.assertEqual(told(house, "floor"), "aff")
        told(house, "begin")
        told(house, "redo")
        told(house, "drop")
        self.assertEqual((told(house, "floor"), house.trials()), ("aff", 0))
        told(house, "begin")
        told(house, "redo")
        told(house, "keep")
        self.assertEqual((told(house, "floor"), house.trials()), ("aee", 0))

    def test_letters(self):
        house = House(line(6), 6, floor=(0, 1, 2, 3, 4, 5))
        self.assertEqual(told(house, "floor"), "abcdef")
        told(house, "aim fedcba")
        self.assertEqual((house.goal(), told(house, "can")), ((5, 4, 3, 2, 1, 0), "no"))
        told(house, "aim abcdef")
        self.assertEqual(told(house, "can"), "yes")

    def test_kinds(self):
        house = House(side_by_side(ring(3), line(1), full(4), line(2)), 2)
        for x, name in ((0, "ring"), (2, "ring"), (3, "dot"), (4, "stout"), (7, "stout"), (8, "narrow"), (9, "narrow")):
            self.assertEqual(told(house, f"kind {x}"), name)
        told(house, "link 0 3")
        self.assertEqual(told(house, "kind 3"), "narrow")

    def test_rows_that_are_refused(self):
        house = House(grid(2, 2), 2)
        told(house, "begin")
        before = seen(house)
        rows = ["", " ", "  ", "\n", "paint", "lay", "link", "cut", "aim", "kind", "paint ", "undo ", " undo", "undo  ", "Undo", "UNDO", "undo\n",
                "undo\t", "\tundo", "undo undo", "redo 1", "begin 0", "keep .", "drop a", "floor a", "floor 0", "can yes", "trials 1", "trials ",
                "paint 0 1", "paint 0 1 1 1", "paint  0 1 1", "paint 0  1 1", "paint 0 1  1", "paint 0 1 1 ", " paint 0 1 1", "paint 0\t1 1",
                "paint 0 1 b", "paint a b 1", "paint 0,1,1", "paint 0-1-1", "link 0", "link 0 3 1", "link 0  3", "link 0 3 ", "link a d", "cut 0",
                "cut 0 1 2", "cut 0-1", "cut 0 -1", "kind 0 1", "kind a", "kind -1", "kind  0", "kind 0 ", "kind +1", "aim 0000", "aim ABAB", "aim aaag",
                "aim aa aa", "aim  aaaa", "aim ", "aim aaaa ", "aim aaaa\n", "aim aaa#", "aim 0", "lay 0-1-1 0-1-0", "lay  .", "lay . ", "lay . .", "goal", "answer",
                "record", "web", "paints 0 1 1", "pain 0 1 1", "told", "house", "begin\nundo", "undo\nredo", "floor\n", "can\n", "ok", "0", ".", "none"]
        rows += ["lay " + word for word in WRONG]
        for number in ("00", "01", "000000", "0000001", "1000000", "1234567", "9999999", "-0", "+0", "0x1", "1.", "1_0", "\u0660", "\u00b9", "x", "1\n", "12345678901234"):
            rows += [f"paint {number} 1 1", f"paint 0 {number} 1", f"paint 0 1 {number}", f"link {number} 0", f"link 0 {number}", f"cut {number} 0",
                     f"cut 0 {number}", f"kind {number}"]
        for row in rows:
            self.refuses(BadRow, row, told, house, row)
            self.assertEqual(seen(house), before)

    def test_numbers_of_six_characters(self):
        house = House(grid(2, 2), 2)
        self.refuses(BadCell, 999999, told, house, "kind 999999")
        self.refuses(BadCell, 100000, told, house, "link 100000 0")
        self.refuses(BadDeed, (0, 1, 123456), told, house, "paint 0 1 123456")
        self.refuses(BadRun, 0, told, house, "lay 999999-0-1")

    def test_what_the_house_refuses(self):
        house = House(side_by_side(line(2), grid(2, 2)), 2)
        before = seen(house)
        for row, error, what in (
            ("paint 1 0 1", BadDeed, (1, 0, 1)), ("paint 0 1 0", BadDeed, (0, 1, 0)), ("paint 0 1 2", BadDeed, (0, 1, 2)), ("lay 0-1-1,0-1-1", BadRun, 1),
            ("lay " + ",".join(["0-1-1"] * 1001), TooMany, 1001), ("link 0 1", BadPair, (0, 1)), ("link 6 7", BadCell, 6), ("link 3 3", BadPair, (3, 3)),
            ("cut 0 2", BadPair, (0, 2)), ("cut 0 6", BadCell, 6), ("aim a", BadSize, 1), ("aim aaaaaaa", BadSize, 7), ("aim aaabca", BadCoat, 4),
            ("aim ffffff", BadCoat, 0), ("undo", NothingToUndo, 0), ("redo", NothingToRedo, 0), ("keep", NoTrial, 0), ("drop", NoTrial, 0),
            ("can", NoGoal, 0), ("kind 6", BadCell, 6),
        ):
            self.refuses(error, what, told, house, row)
            self.assertEqual(seen(house), before)
        told(house, "aim aaaaaa")
        self.refuses(Narrow, 0, told, house, "can")
        for _ in range(4):
            told(house, "begin")
        self.refuses(TooMany, 5, told, house, "begin")
        for _ in range(199):
            told(house, "lay .")
        for row in ("lay .", "paint 0 1 1", "link 0 2", "cut 0 1", "aim bbbbbb"):
            self.refuses(TooMany, 201, told, house, row)
        self.refuses(BadRow, "lay", told, house, "lay")

    def test_a_run_of_a_thousand_deeds(self):
        house = House(line(2), 2)
        self.assertEqual(told(house, "lay " + ",".join(["0-1-1", "0-1-0"] * 500)), "ok")
        self.assertEqual(len(house.record()[0][1]), 1000)
