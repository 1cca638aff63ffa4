from random import Random

from making import Case

from pairfloors.errors import BadText
from pairfloors.runtext import run_from, run_text

WRONG = (
    "", " ", "..", ". ", " .", ".,.", ".,0-0-0", "0-0-0,.", "0", "0-0", "0-0-0-0", "0-0-", "-0-0", "0--0", "0-0-0,", ",0-0-0", "0-0-0,,0-0-0",
    "0-0-0, 0-0-0", "0-0-0 ,0-0-0", " 0-0-0", "0-0-0 ", "0-0-0\n", "\n", "00-0-0", "0-01-0", "0-0-007", "1000000-0-0", "0-0-1234567", "0-000000-0",
    "+1-0-0", "0-1-a", "a-b-c", "0_1-0-0", "1 0-0-0", "0.0.0", "0-0-0;0-0-0", "\u0661-0-0", "0-\u00b2-0", "0-0-0\t", "0\u20130\u20130", "0-0-1e3",
)


class RunText(Case):
    def test_examples(self):
        self.assertEqual(run_text(()), ".")
        self.assertEqual(run_text(run=((0, 1, 1),)), "0-1-1")
        self.assertEqual(run_text(((0, 1, 1), (10, 2, 999999))), "0-1-1,10-2-999999")
        self.assertEqual(run_from("."), ())
        self.assertEqual(run_from(text="0-1-1,10-2-999999"), ((0, 1, 1), (10, 2, 999999)))

    def test_whether_x_is_less_than_y_is_not_a_matter_of_form(self):
        self.assertEqual(run_from("5-1-0,3-3-100000"), ((5, 1, 0), (3, 3, 100000)))

    def test_read_as_written_and_written_as_read(self):
        chance = Random(131)
        for many in (0, 1, 2, 5, 1000):
            run = tuple(tuple(chance.choice((0, 7, 99, 100000, 999999)) for _ in range(3)) for _ in range(many))
            self.assertEqual(run_from(run_text(run)), run)
            self.assertEqual(run_text(run_from(run_text(run))), run_text(run))
            self.assertIs(run_from(run_text(run)).__class__, tuple)

    def test_no_run_words(self):
        for text in WRONG:
            self.refuses(BadText, 0, run_from, text)
