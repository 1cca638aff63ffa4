from making import Case

from pairfloors import errors
from pairfloors.errors import Refused

NAMES = """BadSize BadCount BadLink TooMany BadCell BadPair BadHole BadWall BadDoor BadSpot BadTable Loose BadCoat BadDeed
BadRun BadNumber BadWeighing BadStone BadWalker BadStep BadAnswer BadRow BadText BadMap NotRing Narrow NotStout OneSided
NotSame NoWay TooLarge NoGoal NoTrial NothingToUndo NothingToRedo""".split()


class Errors(Case):
    def test_all_are_there(self):
        self.assertEqual(len(NAMES), 35)
        found = {name for name in vars(errors) if isinstance(getattr(errors, name), type)}
        self.assertEqual(found, set(NAMES) | {"Refused"})

    def test_refused_stands_under_value_error(self):
        self.assertEqual(Refused.__bases__, (ValueError,))

    def test_each_stands_under_refused_alone(self):
        for name in NAMES:
            self.assertEqual(getattr(errors, name).__bases__, (Refused,), name)

    def test_what_is_kept(self):
        for name in NAMES + ["Refused"]:
            error = getattr(errors, name)
            for what in (0, -7, 10 ** 30, (1, 2), ((1, 2), 3), "row", None, ()):
                self.assertIs(error(what).what, what)
                self.assertIs(error(what=what).what, what)

    def test_each_takes_one_argument(self):
        for name in NAMES + ["Refused"]:
            error = getattr(errors, name)
            self.assertRaises(TypeError, error)
            self.assertRaises(TypeError, error, 1, 2)

    def test_each_is_caught_as_refused_and_as_value_error(self):
        for name in NAMES:
            error = getattr(errors, name)
            for above in (error, Refused, ValueError):
                with self.assertRaises(above) as held:
                    raise error(4)
                self.assertEqual(held.exception.what, 4)
