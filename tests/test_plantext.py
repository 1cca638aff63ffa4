from random import Random

from making import Case

from pairfloors.errors import BadCount, BadHole, BadSize, BadText, BadWall, Refused
from pairfloors.plans import checked_plan
from pairfloors.plantext import plan_from, plan_text

EXAMPLE = (2, 2, 0, ((0, 1),), ())
BOTH = (3, 3, 3, ((1, 1), (2, 2)), (((0, 0), (0, 2)), ((0, 0), (1, 0))))


def random_plan(chance):
    """A plan with holes and walls chosen at random."""
    while True:
        rows, cols, around = chance.randint(1, 8), chance.randint(1, 8), chance.randint(0, 3)
        places = [(r, c) for r in range(rows) for c in range(cols)]
        holes = sorted(chance.sample(places, chance.randint(0, len(places) // 2)))
        walls = sorted({tuple(sorted(chance.choices(places, k=2))) for _ in range(40)})
        kept = []
        for pair in walls:
            try:
                checked_plan((rows, cols, around, tuple(holes), (pair,)))
                kept.append(pair)
            except Refused:
                pass
        plan = (rows, cols, around, tuple(holes), tuple(kept))
        try:
            return checked_plan(plan)
        except Refused:
            pass


class PlanText(Case):
    def test_examples(self):
        self.assertEqual(plan_text(EXAMPLE), "plan 2 2 0\nhole 0 1")
        self.assertEqual(plan_text(plan=BOTH), "plan 3 3 3\nhole 1 1\nhole 2 2\nwall 0 0 0 2\nwall 0 0 1 0")
        self.assertEqual(plan_text((1, 1, 0, (), ())), "plan 1 1 0")
        self.assertEqual(plan_from("plan 2 2 0\nhole 0 1"), EXAMPLE)
        self.assertEqual(plan_from(text="plan 3 3 3\nhole 1 1\nhole 2 2\nwall 0 0 0 2\nwall 0 0 1 0"), BOTH)
        self.assertEqual(plan_from("plan 8 5 2"), (8, 5, 2, (), ()))

    def test_read_as_written_and_written_as_read(self):
        chance = Random(137)
        for _ in range(150):
            plan = random_plan(chance)
            self.assertEqual(plan_from(plan_text(plan)), plan)
            self.assertEqual(plan_text(plan_from(plan_text(plan))), plan_text(plan))

    def test_plan_text_checks_the_plan(self):
        self.refuses(BadCount, 9, plan_text, (9, 9, 9, (), ()))
        self.refuses(BadHole, 0, plan_text, (2, 2, 0, ((2, 0),), ()))
        self.refuses(BadSize, 0, plan_text, (1, 1, 0, ((0, 0),), ()))
        self.refuses(BadWall, 0, plan_text, (2, 2, 0, (), (((0, 0), (1, 1)),)))

    def test_bad_rows(self):
        for text, at in (
            ("", 0), ("\n", 0), ("plan", 0), ("plan 2 2", 0), ("plan 2 2 0 0", 0), ("plan  2 2 0", 0), ("plan 2 2 0 ", 0), (" plan 2 2 0", 0),
            ("Plan 2 2 0", 0), ("plan 2 2 x", 0), ("plan 02 2 0", 0), ("plan 2 -2 0", 0), ("plan 2 2 1000000", 0), ("web 4", 0), ("hole 0 0", 0),
            ("plan 2 2 0\n", 1), ("plan 2 2 0\n\n", 1), ("plan 2 2 0\nhole", 1), ("plan 2 2 0\nhole 0", 1), ("plan 2 2 0\nhole 0 1 2", 1),
            ("plan 2 2 0\nhole 0  1", 1), ("plan 2 2 0\nhole 0 1 ", 1), ("plan 2 2 0\nhole 0 01", 1), ("plan 2 2 0\nhol 0 1", 1), ("plan 2 2 0\n0 1", 1),
            ("plan 2 2 0\nwall 0 0", 1), ("plan 2 2 0\nwall 0 0 0", 1), ("plan 2 2 0\nwall 0 0 0 1 0", 1), ("plan 2 2 0\nwall 0 0 0 a", 1),
            ("plan 2 2 0\nwall 0 0 0 1\nhole 1 1", 2), ("plan 2 2 0\nhole 0 1\nwall 0 0 1 0\nhole 1 1\nwall", 3), ("plan 2 2 0\nhole 0 1\nplan 2 2 0", 2),
            ("plan 2 2 0\nhole 0 1\n", 2), ("plan 2 2 0\nwall 0 0 0 1\n\nhole 1 1", 2), ("plan 2 2 0\nHole 0 1", 1), ("plan 2 2 0\rhole 0 1", 0),
            ("plan 2 2 0\nhole\t0 1", 1), ("plan 2 2 0\nwall 0 0 0 1\nwall 0 0 1 0 \nhole 1 1", 2),
        ):
            self.refuses(BadText, at, plan_from, text)

    def test_form_comes_first(self):
        self.refuses(BadText, 2, plan_from, "plan 9 9 9\nhole 9 9\nhole 9")
        self.refuses(BadText, 2, plan_from, "plan 0 0 0\nwall 9 9 9 9\nhole 0 0")

    def test_errors_of_the_plan(self):
        for text, error, what in (
            ("plan 0 2 0", BadCount, 0), ("plan 999999 2 0", BadCount, 999999), ("plan 2 9 4", BadCount, 9), ("plan 2 2 4", BadCount, 4),
            ("plan 2 2 1", BadCount, 1), ("plan 2 3 2\nhole 9 9", BadCount, 2), ("plan 2 2 0\nhole 0 1\nhole 0 1", BadHole, 1),
            ("plan 2 2 0\nhole 1 0\nhole 0 1", BadHole, 1), ("plan 2 2 0\nhole 0 2", BadHole, 0), ("plan 8 8 0", BadSize, 64),
            ("plan 1 1 0\nhole 0 0\nwall 0 0 0 0", BadSize, 0), ("plan 2 2 0\nhole 0 1\nwall 0 0 0 1", BadWall, 0),
            ("plan 2 2 0\nwall 0 1 0 0", BadWall, 0), ("plan 2 2 0\nwall 0 0 0 1\nwall 0 0 1 1", BadWall, 1),
            ("plan 2 2 0\nhole 0 1\nwall 0 0 1 0\nwall 0 0 1 0", BadWall, 1),
        ):
            self.refuses(error, what, plan_from, text)
