import itertools
import random

from ridingvotes.spreading import shows_spread, spread
from tests.things import DEEPEST, LONG, ODD
from tests.world_case import WorldCase


def all_shares(many, hands):
    """All tuples of so many points in all."""
    if hands == 1:
        return [(many,)]
    return [(first,) + rest for first in range(many + 1) for rest in all_shares(many - first, hands - 1)]


def bears(shares, falls):
    """Whether, whichever so many hands are left out, the others have more than half."""
    return all(2 * (sum(shares) - sum(left)) > sum(shares) for left in itertools.combinations(shares, falls))


def moves(ahead, behind):
    return sum(max(0, one - other) for one, other in zip(ahead, behind, strict=True))


class Spread(WorldCase):
    def test_all_shares_of_few_points(self):
        """As few moves as any, and None just where there are none."""
        none = some = 0
        for hands, most in ((1, 9), (2, 9), (3, 9), (4, 6), (5, 5)):
            for many in range(1, most + 1):
                every = all_shares(many, hands)
                for falls in range(hands):
                    good = [behind for behind in every if bears(behind, falls)]
                    for shares in every:
                        some += bool(good)
                        none += not good
                        self.is_good(shares, falls, good)
        self.assertGreater(some, 1000)
        self.assertGreater(none, 1000)

    def is_good(self, shares, falls, good):
        told = spread(shares, falls)
        if not good:
            self.assertIsNone(told)
        else:
            self.assertIn(told[1], good)
            self.is_told(told, (min(moves(shares, behind) for behind in good), told[1]))
            self.assertEqual(told[0], moves(shares, told[1]))
            self.assertEqual({type(part) for part in told[1]}, {int})
        self.assertIs(shows_spread(shares, falls, told), True)

    def test_some_by_hand(self):
        self.is_told(spread((9, 0, 0), 0), (0, (9, 0, 0)))
        self.assertEqual(spread((9, 0, 0), 1)[0], 5)
        self.is_told(spread((3, 3, 3), 1), (0, (3, 3, 3)))
        self.assertIsNone(spread((3, 3, 3), 2))
        self.is_told(spread((2, 1, 1), 0), (0, (2, 1, 1)))
        self.assertIsNone(spread((2, 1, 1), 1))
        self.assertEqual(spread((2, 1, 1, 0), 1), (1, (1, 1, 1, 1)))
        self.assertEqual(spread((0, 0, 0, 0, 5), 2), (4, (1, 1, 1, 1, 1)))

    def test_odd_and_even(self):
        self.assertEqual(spread((4, 4), 1), None)
        self.assertEqual(spread((5, 4), 1), None)
        self.assertEqual(spread((5, 3, 0), 1)[0], 2)
        self.assertEqual(spread((5, 4, 0), 1)[0], 1)

    def test_one_hand_and_eight(self):
        self.is_told(spread((1,), 0), (0, (1,)))
        self.is_told(spread((1,) * 8, 3), (0, (1,) * 8))
        self.assertIsNone(spread((1,) * 8, 4))
        self.assertEqual(spread((8,) + (0,) * 7, 3), (7, (1,) * 8))
        for falls in range(4, 8):
            self.assertIsNone(spread((8,) + (0,) * 7, falls))

    def test_great_shares(self):
        for shares, falls, least in (
                ((LONG,) * 8, 3, 0), ((8 * LONG,) + (0,) * 7, 3, 560000000003), ((LONG, LONG, 0), 1, 2),
                ((9 * LONG, 0, 0), 1, 9 * LONG - (9 * LONG - 1) // 2), ((10 * LONG, 0, 0, 0, 0), 2, 666666666668),
                ((5 * LONG, LONG, LONG, LONG, 2 * LONG), 2, 2 * LONG + 1)):
            told = spread(shares, falls)
            self.assertEqual(told[0], least)
            self.assertEqual(moves(shares, told[1]), least)
            self.assertTrue(bears(told[1], falls))
            self.assertEqual(sum(told[1]), sum(shares))
            self.assertIs(shows_spread(shares, falls, told), True)

    def test_many_great_shares(self):
        dice = random.Random(1)
        for _ in range(200):
            shares = tuple(dice.randrange(LONG) for _ in range(dice.randrange(1, 9)))
            if not any(shares):
                continue
            for falls in range(len(shares)):
                told = spread(shares, falls)
                # With so many points one more or less is nothing: half of the hands may not fall.
                if 2 * falls >= len(shares):
                    self.assertIsNone(told)
                else:
                    self.assertTrue(bears(told[1], falls))
                    self.assertEqual((sum(told[1]), moves(shares, told[1])), (sum(shares), told[0]))
                    top = sum(sorted(shares, reverse=True)[:falls])
                    self.assertGreaterEqual(told[0], top - (sum(shares) - 1) // 2)

    def test_by_name(self):
        self.is_told(spread(falls=1, shares=(3, 3, 3)), (0, (3, 3, 3)))
        self.assertIs(shows_spread(thing=(0, (3, 3, 3)), falls=1, shares=(3, 3, 3)), True)


class ShowsSpread(WorldCase):
    def test_just_the_right_answers(self):
        for hands, many in ((1, 3), (2, 4), (3, 5), (3, 6), (4, 5)):
            every = all_shares(many, hands)
            for falls in range(hands):
                good = [behind for behind in every if bears(behind, falls)]
                for shares in every[::3]:
                    least = min([moves(shares, behind) for behind in good], default=None)
                    for behind in every:
                        number = moves(shares, behind)
                        self.assertIs(shows_spread(shares, falls, (number, behind)),
                                      behind in good and number == least)
                    self.assertIs(shows_spread(shares, falls, None), not good)

    def test_other_right_answers(self):
        for behind in ((4, 4, 1), (4, 3, 2), (4, 2, 3), (4, 1, 4)):
            self.assertIs(shows_spread((9, 0, 0), 1, (5, behind)), True)
        self.assertIs(shows_spread((9, 0, 0), 1, (5, (4, 5, 0))), False)
        self.assertIs(shows_spread((9, 0, 0), 1, (6, (3, 3, 3))), False)
        self.assertIs(shows_spread((LONG, LONG, 0), 1, (1, (LONG - 1, LONG, 1))), False)
        self.assertIs(shows_spread((LONG, LONG, 1), 1, (0, (LONG, LONG, 1))), True)

    def test_moves_one_more_or_less(self):
        for number in (4, 6, 0, -5, 10):
            self.assertIs(shows_spread((9, 0, 0), 1, (number, (4, 4, 1))), False)

    def test_other_sums(self):
        for behind in ((4, 4, 2), (4, 4, 0), (4, 4), (4, 4, 1, 0), (4, 3, 1), (), (9,), (4, 6, -1)):
            self.assertIs(shows_spread((9, 0, 0), 1, (5, behind)), False)

    def test_truths_lists_and_texts(self):
        self.assertIs(shows_spread((2, 1, 1, 0), 1, (1, (1, 1, 1, 1))), True)
        for thing in ([1, (1, 1, 1, 1)], (True, (1, 1, 1, 1)), (1, [1, 1, 1, 1]), (1, (True, 1, 1, 1)),
                      (1, (1, 1, 1, True)), ("1", (1, 1, 1, 1)), (1, "1111"), (1, (1, 1, 1, "1")), (1,), (1, 1, 1, 1),
                      (1, (1, 1, 1, 1), ()), (1, (1, 1, 1, (1,))), (1, (1, 1, 1, None)), (None, None),
                      ((1, 1, 1, 1), 1)):
            self.assertIs(shows_spread((2, 1, 1, 0), 1, thing), False)
        self.assertIs(shows_spread((3, 3, 3), 1, (False, (3, 3, 3))), False)

    def test_things_of_any_kind(self):
        for thing in ODD + DEEPEST + [()]:
            for shares, falls, many in (((3, 3, 3), 1, 0), ((9, 0, 0), 1, 5)):
                before = repr(thing)
                self.assertIs(shows_spread(shares, falls, thing), False)
                self.assertIs(shows_spread(shares, falls, (many, thing)), False)
                self.assertIs(shows_spread(shares, falls, (many, (thing, 3, 3))), False)
                if thing != many or isinstance(thing, bool):
                    self.assertIs(shows_spread(shares, falls, (thing, (3, 3, 3))), False)
                self.assertEqual(repr(thing), before)
            self.assertIs(shows_spread((1, 1), 1, thing), thing is None)

    def test_none(self):
        self.assertIs(shows_spread((1, 1), 1, None), True)
        self.assertIs(shows_spread((1, 1), 1, (0, (1, 1))), False)
        self.assertIs(shows_spread((1, 1), 0, None), False)
        self.assertIs(shows_spread((3, 3, 3), 1, None), False)
