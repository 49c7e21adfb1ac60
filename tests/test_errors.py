import unittest

from ridingvotes import errors
from tests.things import DEEPEST, FAR, ODD

UNDER_VOTE_ERROR = {
    "TooMany": "many", "Twice": "point", "OldBallot": "number", "NotMost": "name", "Known": "row",
    "FarRow": "row", "NoLot": "thing", "NotHeld": "point", "Fallen": "name", "Standing": "name",
    "NotMine": "thing", "BadWorld": "thing", "NoDeed": "thing", "NoWord": "thing", "NoText": "row",
    "NoLine": "thing",
}
UNDER_MISSING = {"NoHand": "thing", "NoLetter": "thing", "NoPoint": "point"}
ALL = dict(UNDER_VOTE_ERROR, **UNDER_MISSING)


def made(name, thing):
    return getattr(errors, name)(thing)


class Families(unittest.TestCase):
    def test_families_stand_apart(self):
        self.assertTrue(issubclass(errors.VoteError, ValueError))
        self.assertTrue(issubclass(errors.Missing, LookupError))
        self.assertFalse(issubclass(errors.VoteError, LookupError))
        self.assertFalse(issubclass(errors.Missing, ValueError))
        self.assertFalse(issubclass(errors.VoteError, errors.Missing))
        self.assertFalse(issubclass(errors.Missing, errors.VoteError))

    def test_each_is_straight_under_its_family(self):
        for name in UNDER_VOTE_ERROR:
            with self.subTest(name):
                self.assertEqual(getattr(errors, name).__bases__, (errors.VoteError,))
                self.assertNotIsInstance(made(name, 3), errors.Missing)
                self.assertNotIsInstance(made(name, 3), LookupError)
        for name in UNDER_MISSING:
            with self.subTest(name):
                self.assertEqual(getattr(errors, name).__bases__, (errors.Missing,))
                self.assertNotIsInstance(made(name, 3), errors.VoteError)
                self.assertNotIsInstance(made(name, 3), ValueError)

    def test_none_is_one_of_the_others(self):
        for name in ALL:
            for other in ALL:
                if name != other:
                    with self.subTest(name, other=other):
                        self.assertNotIsInstance(made(name, 3), getattr(errors, other))

    def test_each_can_be_caught_by_its_family(self):
        for name in UNDER_VOTE_ERROR:
            with self.subTest(name), self.assertRaises(errors.VoteError):
                raise made(name, 3)
        for name in UNDER_MISSING:
            with self.subTest(name), self.assertRaises(errors.Missing):
                raise made(name, 3)

    def test_each_is_defined_in_errors(self):
        for name in list(ALL) + ["VoteError", "Missing"]:
            with self.subTest(name):
                self.assertEqual(getattr(errors, name).__module__, "ridingvotes.errors")
                self.assertEqual(getattr(errors, name).__name__, name)


class Values(unittest.TestCase):
    def test_each_bears_just_what_was_handed_in(self):
        for name, attribute in ALL.items():
            for thing in ODD + DEEPEST + [()]:
                with self.subTest(name, thing=thing):
                    self.assertIs(getattr(made(name, thing), attribute), thing)

    def test_by_the_name_told(self):
        for name, attribute in ALL.items():
            with self.subTest(name):
                error = getattr(errors, name)(**{attribute: [1, {2: None}]})
                self.assertEqual(getattr(error, attribute), [1, {2: None}])

    def test_two_of_a_class_bear_each_its_own(self):
        for name, attribute in ALL.items():
            with self.subTest(name):
                one, other = made(name, FAR), made(name, "b")
                self.assertEqual((getattr(one, attribute), getattr(other, attribute)), (FAR, "b"))

    def test_caught_it_still_bears_it(self):
        for name, attribute in ALL.items():
            with self.subTest(name):
                with self.assertRaises(getattr(errors, name)) as caught:
                    raise made(name, ("x", [3]))
                self.assertEqual(getattr(caught.exception, attribute), ("x", [3]))


if __name__ == "__main__":
    unittest.main()
