"""What the tests of hands share: hands at first, the parts of book and mind by name, and what a deed changes."""

import copy
import unittest

from ridingvotes.hands import Hand

NONE = (0, 0)
BOOK = ("name", "holding", "heard", "standing", "number", "offers", "known", "more", "outbox", "sent", "taken", "log")
MIND = ("gathered", "counts", "learns", "late")
# What stands for each part of the mind of a hand that is down.
DOWN = "down"
BORNE = {"OldBallot": "number", "NotMost": "name", "Known": "row", "FarRow": "row", "NoLot": "thing",
         "NotHeld": "point", "Fallen": "name", "Standing": "name", "NotMine": "thing", "NoHand": "thing"}


def parts_of(hand):
    """The parts of its book and mind by their names."""
    mind = hand.mind()
    parts = dict(zip(BOOK, hand.book(), strict=True))
    parts.update(zip(MIND, (DOWN,) * len(MIND) if mind is None else mind, strict=True))
    return parts


def hold(first, last, promised=NONE, *taken):
    """A holding of one run."""
    return ((first, last, (promised, taken)),)


def trio():
    """Three hands of three points each."""
    return [Hand(name, 3, 9, hold(3 * name, 3 * name + 2)) for name in range(3)]


def pair(one=4, other=4):
    """Two hands with so many points each."""
    return [Hand(0, 2, one + other, hold(0, one - 1)), Hand(1, 2, one + other, hold(one, one + other - 1))]


class HandCase(unittest.TestCase):
    def does(self, hand, told, method, *parts, **changed):
        """The deed tells just this, and just these parts of book and mind are changed, to these values."""
        expected = {**parts_of(hand), **changed}
        before = copy.deepcopy(parts)
        found = getattr(hand, method)(*parts)
        self.assertEqual(found, told)
        # Two reprs are alike only where the kinds are, too: no list for a tuple, no truth for a number.
        self.assertEqual(repr(found), repr(told))
        self.assertEqual(parts_of(hand), expected)
        self.assertEqual(repr(parts_of(hand)), repr(expected))
        self.assertEqual(repr(parts), repr(before))

    def refused(self, hand, error, value, method, *parts):
        """The deed is refused with just this, nothing being changed."""
        expected, before = repr(parts_of(hand)), repr(parts)
        with self.assertRaises(error) as caught:
            getattr(hand, method)(*parts)
        self.assertIs(type(caught.exception), error)
        borne = getattr(caught.exception, BORNE[error.__name__])
        self.assertEqual(borne, value)
        self.assertEqual(repr(borne), repr(value))
        self.assertEqual(repr(parts_of(hand)), expected)
        self.assertEqual(repr(parts), before)

    def has(self, hand, **parts):
        """These parts of its book and mind are so."""
        found = parts_of(hand)
        self.assertEqual({name: found[name] for name in parts}, parts)
