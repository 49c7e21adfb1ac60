"""What the tests of worlds share: worlds led by deeds, what they tell in all, and what is refused, changing nothing."""

import copy
import unittest

from ridingvotes.worlds import World
from tests.hand_case import BORNE, NONE

ALL_BORNE = {**BORNE, "BadWorld": "thing", "NoDeed": "thing", "NoWord": "thing", "NoLetter": "thing", "NoText": "row",
             "NoLine": "thing", "NoPoint": "point"}


def led(shares, *deeds):
    """The world of these shares behind the deeds."""
    world = World(shares)
    for deed in deeds:
        world.do(deed)
    return world


def comes(many):
    """So many deeds by which the first letter comes."""
    return (("come", 0),) * many


def all_told(world):
    """All that the world tells of itself."""
    hands = [world.hand(name) for name in range(world.hands())]
    return ([(hand.book(), hand.mind()) for hand in hands], world.road(), world.points(), world.spots(),
            world.greatest(), world.took(), world.chosen(), len(world))


def run(first, last, promised=NONE, *taken):
    """A run of a holding."""
    return (first, last, (promised, taken))


# Three hands of three points each. Hand 0 asked by (1, 0), all heard it, and all was told; it may offer.
ASKED = (("ask", 0, 1),) + comes(4)
# Behind that it offered the word 7 of row 0, which was chosen as hand 1 had taken it, and all know it.
CHOSEN = ASKED + (("offer", 0, 0, 7),) + comes(6)


class WorldCase(unittest.TestCase):
    def is_told(self, found, told):
        """Just this is told, its kinds too: no list for a tuple, no truth for a number."""
        self.assertEqual(found, told)
        self.assertEqual(repr(found), repr(told))

    def refused(self, world, error, value, question, *parts, **named):
        """The question is refused with just this, nothing in the world nor what is handed in being changed."""
        expected, before = repr(all_told(world)) if world is not None else None, repr((parts, named))
        with self.assertRaises(error) as caught:
            question(*parts, **named)
        self.assertIs(type(caught.exception), error)
        borne = getattr(caught.exception, ALL_BORNE[error.__name__])
        self.is_told(borne, value)
        self.assertEqual(repr((parts, named)), before)
        if world is not None:
            self.assertEqual(repr(all_told(world)), expected)

    def does(self, world, deed, told, letters=(), gone=None):
        """The deed tells this; the letter with the number gone leaves the road, these letters stand behind it."""
        road = list(world.road())
        if gone is not None:
            del road[gone]
        before = copy.deepcopy(deed)
        self.is_told(world.do(deed), told)
        self.is_told(world.road(), tuple(road) + letters)
        self.assertEqual(repr(deed), repr(before))
