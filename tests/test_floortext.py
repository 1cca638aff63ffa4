from random import Random

from test_plantext import BOTH, EXAMPLE, random_plan

from making import Case

from pairfloors.errors import BadCount, BadHole, BadSize, BadText, BadWall
from pairfloors.floortext import floor_of, floor_text
from pairfloors.planwebs import spot_of, web_of

SQUARE = (2, 2, 0, (), ())


class FloorText(Case):
    def test_examples(self):
        self.assertEqual(floor_text(EXAMPLE, (2, 0, 1)), "c#\nab")
        self.assertEqual(floor_text(plan=SQUARE, floor=(0, 1, 2, 3)), "ab\ncd")
        self.assertEqual(floor_text(BOTH, (0, 1, 2, 3, 4, 5, 0)), "abc\nd#e\nfa#")
        self.assertEqual(floor_text((1, 1, 0, (), ()), (5,)), "f")
        self.assertEqual(floor_text((1, 8, 1, ((0, 3),), ()), (0, 1, 2, 3, 4, 5, 0)), "abc#defa")
        self.assertEqual(floor_of(EXAMPLE, "c#\nab"), (2, 0, 1))
        self.assertEqual(floor_of(plan=BOTH, text="abc\nd#e\nfa#"), (0, 1, 2, 3, 4, 5, 0))
        self.assertEqual(floor_of((3, 1, 0, ((0, 0), (2, 0)), ()), "#\nb\n#"), (1,))

    def test_read_as_written_and_written_as_read(self):
        chance = Random(139)
        for _ in range(100):
            plan = random_plan(chance)
            web = web_of(plan)
            floor = tuple(chance.randrange(6) for _ in range(web.size))
            text = floor_text(plan, floor)
            rows = text.split("\n")
            self.assertEqual([len(row) for row in rows], [plan[1]] * plan[0])
            for x, coat in enumerate(floor):
                r, c = spot_of(plan, x)
                self.assertEqual(rows[r][c], "abcdef"[coat])
            for r, c in plan[3]:
                self.assertEqual(rows[r][c], "#")
            self.assertEqual(floor_of(plan, text), floor)
            self.assertEqual(floor_text(plan, floor_of(plan, text)), text)

    def test_bad_rows(self):
        for text, at in (
            ("", 0), ("a", 0), ("abc\nab", 0), ("ag\nab", 0), ("aB\nab", 0), ("a \nab", 0), ("a b\nab", 0), ("a#\nab", 0), ("0a\nab", 0), ("\nab", 0),
            ("ab\na", 1), ("ab\nabc", 1), ("ab\na#", 1), ("ab\n", 1), ("ab\nga", 1), ("ab\n\nab", 1), ("ab", 1), ("ab\nab\n", 2), ("ab\nab\nab", 2),
            ("ab\nab\nxyz", 2), ("ab\nab\n\n", 2), ("ab\rab", 0), ("ab\r\nab", 0), ("a\u0430\nab", 0), ("ag", 0), ("ag\nab\nab", 0), ("ab\nag\nab", 1),
        ):
            self.refuses(BadText, at, floor_of, SQUARE, text)

    def test_holes(self):
        for text, at in (("ca\nab", 0), ("#c\nab", 0), ("##\nab", 0), ("c#\n#b", 1), ("c#\na#", 1), ("c#", 1), ("c#\nab\nc#", 2), ("c\nab", 0)):
            self.refuses(BadText, at, floor_of, EXAMPLE, text)
        self.refuses(BadText, 3, floor_of, BOTH, "abc\nd#e\nfa#\nabc")
        self.refuses(BadText, 2, floor_of, BOTH, "abc\nd#e")
        self.refuses(BadText, 2, floor_of, BOTH, "abc\nd#e\n#ab")

    def test_the_plan_is_checked_first(self):
        for plan, error, what in (((0, 2, 0, (), ()), BadCount, 0), ((2, 2, 1, (), ()), BadCount, 1), ((2, 2, 0, ((2, 2),), ()), BadHole, 0),
                                  ((8, 8, 0, (), ()), BadSize, 64), ((2, 2, 0, (), (((0, 0), (1, 1)),)), BadWall, 0)):
            self.refuses(error, what, floor_of, plan, "")
            self.refuses(error, what, floor_text, plan, (0, 0, 0, 0))
