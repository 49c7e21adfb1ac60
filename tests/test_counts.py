import copy
import itertools
import unittest

from ridingvotes.counts import gathered, is_most, must
from ridingvotes.slips import FRESH
from tests.things import FAR, LONG, all_holdings, all_lots, holding_by_points

ONE = ((1, 0), ())
TWO = ((2, 1), ())
SEVEN = ((2, 1), ((0, (1, 0), 7),))
LATER = ((3, 0), ((0, (3, 0), 8),))
# Neither of these two is no earlier than the other.
LEFT = ((3, 0), ((0, (2, 1), 7),))
RIGHT = ((3, 0), ((1, (2, 1), 7),))
UNLIKE = ((3, 0), ((0, (2, 1), 9),))
STRIPES = tuple((at * 10 ** 9, (at + 1) * 10 ** 9 - 1, (ONE, SEVEN)[at % 2]) for at in range(200))
SLIPS = (FRESH, SEVEN, LEFT, RIGHT)


def no_earlier(one, other):
    """Whether the slip other is no earlier than one, row by row."""
    rows = {row: (ballot, word) for row, ballot, word in other[1]}
    return one[0] <= other[0] and all(
        row in rows and (rows[row][0] > ballot or rows[row] == (ballot, word)) for row, ballot, word in one[1])


class Gathered(unittest.TestCase):
    def test_none_shared(self):
        self.assertEqual(gathered(((0, 3, ONE),), ((6, 9, TWO),)), ((0, 3, ONE), (6, 9, TWO)))
        self.assertEqual(gathered(((6, 9, TWO),), ((0, 3, ONE),)), ((0, 3, ONE), (6, 9, TWO)))
        self.assertEqual(gathered(((0, 0, ONE), (9, 9, ONE)), ((4, 5, TWO),)),
                         ((0, 0, ONE), (4, 5, TWO), (9, 9, ONE)))

    def test_runs_that_touch_and_are_alike_are_one(self):
        self.assertEqual(gathered(((0, 3, ONE),), ((4, 9, ONE),)), ((0, 9, ONE),))
        self.assertEqual(gathered(((4, 9, ONE),), ((0, 3, ONE),)), ((0, 9, ONE),))
        self.assertEqual(gathered(((0, 5, ONE),), ((3, 9, ONE),)), ((0, 9, ONE),))
        self.assertEqual(gathered(((0, 5, ONE),), ((3, 5, TWO), (6, 9, TWO))), ((0, 2, ONE), (3, 9, TWO)))

    def test_the_later_slip_of_points_of_both(self):
        for one, other in ((ONE, TWO), (FRESH, SEVEN), (SEVEN, LATER), (TWO, SEVEN), (FRESH, LEFT), (TWO, RIGHT)):
            with self.subTest(one=one, other=other):
                self.assertEqual(gathered(((0, 5, one),), ((3, 9, other),)), ((0, 2, one), (3, 9, other)))
                self.assertEqual(gathered(((0, 5, other),), ((3, 9, one),)), ((0, 5, other), (6, 9, one)))
                self.assertEqual(gathered(((3, 9, other),), ((0, 5, one),)), ((0, 2, one), (3, 9, other)))

    def test_of_slips_that_are_neither_later_the_first_goes(self):
        for one, other in itertools.permutations((LEFT, RIGHT, UNLIKE), 2):
            with self.subTest(one=one, other=other):
                self.assertEqual(gathered(((0, 3, one),), ((0, 3, other),)), ((0, 3, one),))

    def test_inside_one_another(self):
        self.assertEqual(gathered(((0, 9, ONE),), ((3, 4, TWO), (6, 6, FRESH))),
                         ((0, 2, ONE), (3, 4, TWO), (5, 9, ONE)))
        self.assertEqual(gathered(((3, 4, TWO), (6, 6, FRESH)), ((0, 9, ONE),)),
                         ((0, 2, ONE), (3, 4, TWO), (5, 9, ONE)))

    def test_with_itself_and_with_none(self):
        for holding, _ in all_holdings(3, SLIPS):
            self.assertEqual(gathered(holding, holding), holding)
            self.assertEqual(gathered(holding, ()), holding)
            self.assertEqual(gathered((), holding), holding)
        self.assertEqual(gathered(STRIPES, STRIPES), STRIPES)

    def test_great_runs(self):
        self.assertEqual(gathered(((0, 2 * LONG, ONE),), ((LONG, FAR, TWO),)), ((0, LONG - 1, ONE), (LONG, FAR, TWO)))
        self.assertEqual(gathered(STRIPES, ((0, FAR, TWO),)),
                         tuple(run[:2] + ((TWO, SEVEN)[at % 2],) for at, run in enumerate(STRIPES))
                         + ((200 * 10 ** 9, FAR, TWO),))
        self.assertEqual(gathered(STRIPES[::2], STRIPES[1::2]), STRIPES)

    def test_small_holdings(self):
        small = all_holdings(3, SLIPS)
        for (one, ahead), (other, behind) in itertools.product(small, repeat=2):
            held = {**behind, **ahead}
            for point in ahead:
                if point in behind and no_earlier(ahead[point], behind[point]):
                    held[point] = behind[point]
            self.assertEqual(gathered(one, other), holding_by_points(held))

    def test_by_names(self):
        self.assertEqual(gathered(other=((0, 0, LEFT),), one=((0, 0, RIGHT),)), ((0, 0, RIGHT),))


class IsMost(unittest.TestCase):
    def test_of_an_even_number(self):
        for many, told in ((0, False), (1, False), (4, False), (5, False), (6, True), (7, True), (10, True)):
            with self.subTest(many):
                self.assertIs(is_most(((3, 2 + many),) if many else (), 10), told)

    def test_of_an_odd_number(self):
        for many, told in ((0, False), (1, False), (4, False), (5, True), (6, True), (9, True)):
            with self.subTest(many):
                self.assertIs(is_most(((3, 2 + many),) if many else (), 9), told)

    def test_few_points(self):
        self.assertIs(is_most(((0, 0),), 1), True)
        self.assertIs(is_most(((0, 0),), 2), False)
        self.assertIs(is_most(((0, 1),), 2), True)
        self.assertIs(is_most(((0, 0),), 3), False)
        self.assertIs(is_most(((0, 1),), 3), True)
        self.assertIs(is_most((), 1), False)

    def test_several_runs(self):
        self.assertIs(is_most(((0, 1), (4, 5), (9, 9)), 10), False)
        self.assertIs(is_most(((0, 1), (4, 5), (8, 9)), 10), True)
        self.assertIs(is_most(((100, 101), (104, 105), (108, 109)), 11), True)
        self.assertIs(is_most(((100, 101), (104, 105), (108, 109)), 12), False)

    def test_great_runs(self):
        self.assertIs(is_most(((0, LONG - 1),), 2 * LONG), False)
        self.assertIs(is_most(((0, LONG),), 2 * LONG), True)
        self.assertIs(is_most(((0, LONG - 2),), 2 * LONG), False)
        self.assertIs(is_most(((0, LONG),), 2 * LONG + 1), True)
        self.assertIs(is_most(((0, LONG - 1),), 2 * LONG + 1), False)
        wide = tuple((at * 10 ** 9, at * 10 ** 9 + 10 ** 8 - 1) for at in range(200))
        self.assertIs(is_most(wide, 40 * 10 ** 9), False)
        self.assertIs(is_most(wide, 40 * 10 ** 9 - 1), True)

    def test_small_lots(self):
        for lot, points in all_lots(6):
            for many in range(1, 14):
                self.assertIs(is_most(lot, many), len(points) > many - len(points))

    def test_by_names(self):
        self.assertIs(is_most(points=3, lot=((0, 1),)), True)


class Must(unittest.TestCase):
    def test_nothing_taken(self):
        self.assertEqual(must(()), ())
        self.assertEqual(must(((0, 4, FRESH), (5, 9, TWO))), ())

    def test_one_slip(self):
        self.assertEqual(must(((0, 4, SEVEN),)), ((0, 7),))
        self.assertEqual(must(((0, 4, ((9, 0), ((0, (1, 0), 0), (3, (9, 0), 7), (5, (2, 3), 7)))),)),
                         ((0, 0), (3, 7), (5, 7)))

    def test_the_greatest_ballot_of_a_row(self):
        slips = [((9, 0), ((4, ballot, word),)) for ballot, word in (((2, 0), 1), ((2, 1), 2), ((1, 9), 3))]
        for order in itertools.permutations(slips):
            with self.subTest(order):
                holding = tuple((2 * at, 2 * at, slip) for at, slip in enumerate(order))
                self.assertEqual(must(holding), ((4, 2),))
        self.assertEqual(must(((0, 0, ((9, 0), ((4, (2, 5), 1),))), (1, 90, ((9, 0), ((4, (3, 0), 6),))))), ((4, 6),))
        self.assertEqual(must(((0, 0, ((9, 0), ((4, (10, 0), 1),))), (1, 90, ((11, 0), ((4, (9, 8), 6),))))),
                         ((4, 1),))

    def test_what_was_promised_counts_for_nothing(self):
        self.assertEqual(must(((0, 0, ((9, 0), ((4, (1, 0), 1),))), (1, 1, ((3, 0), ((4, (2, 0), 6),))))), ((4, 6),))

    def test_how_many_points_counts_for_nothing(self):
        self.assertEqual(must(((0, LONG, ((9, 0), ((4, (1, 0), 1),))), (LONG + 1, LONG + 1, LATER),
                               (LONG + 2, FAR, ((9, 0), ((0, (2, 0), 5),))))), ((0, 8), (4, 1)))

    def test_the_least_of_several_words(self):
        for words in itertools.permutations((7, 5, 11)):
            with self.subTest(words):
                holding = tuple((2 * at, 2 * at, ((3, 0), ((2, (3, 0), word),))) for at, word in enumerate(words))
                self.assertEqual(must(holding), ((2, 5),))
        self.assertEqual(must(((0, 0, ((3, 0), ((2, (3, 0), 4),))), (1, 1, ((3, 0), ((2, (3, 0), 0),))),
                               (2, 2, ((3, 0), ((2, (2, 0), 1),))))), ((2, 0),))

    def test_rows_rise(self):
        self.assertEqual(must(((0, 0, ((3, 0), ((5, (3, 0), 1), (20, (1, 0), 2)))),
                               (1, 1, ((3, 0), ((0, (3, 0), 3), (11, (2, 0), 4)))),
                               (2, 2, ((4, 0), ((5, (4, 0), 6), (11, (1, 0), 5)))))),
                         ((0, 3), (5, 6), (11, 4), (20, 2)))

    def test_two_hundred_runs(self):
        holding = tuple((2 * at, 2 * at, ((200, 0), ((at % 3, (at + 1, 0), at),))) for at in range(200))
        self.assertEqual(must(holding), ((0, 198), (1, 199), (2, 197)))

    def test_by_name(self):
        self.assertEqual(must(holding=((0, 0, SEVEN),)), ((0, 7),))


class NothingIsChanged(unittest.TestCase):
    def test_the_same_question_is_told_the_same(self):
        one, other = ((0, 5, ONE),), ((3, 9, SEVEN),)
        before = copy.deepcopy((one, other))
        for _ in range(2):
            self.assertEqual(gathered(one, other), ((0, 2, ONE), (3, 9, SEVEN)))
            self.assertEqual(must(other), ((0, 7),))
            self.assertIs(is_most(((0, 5),), 10), True)
        self.assertEqual((one, other), before)


if __name__ == "__main__":
    unittest.main()
