import copy
import unittest

from ridingvotes.holdings import is_holding
from ridingvotes.lots import is_lot
from ridingvotes.points import promising, taking
from ridingvotes.slips import FRESH
from tests.things import FAR, LONG, all_holdings, holding_by_points, lot_by_points

ONE = ((1, 0), ())
TWO = ((2, 1), ())
THREE = ((3, 0), ())
# Slips with words: of row 0 by a lesser ballot, of rows 0 and 4, and one that has promised a greater one since.
SEVEN = ((2, 1), ((0, (1, 0), 7),))
BOTH = ((2, 1), ((0, (2, 1), 7), (4, (1, 0), 8)))
SINCE = ((5, 0), ((0, (2, 1), 7), (4, (1, 0), 8)))
# 200 runs that touch, of 10 ** 9 points each.
STRIPES = tuple((at * 10 ** 9, (at + 1) * 10 ** 9 - 1, (ONE, TWO)[at % 2]) for at in range(200))
WHOLE = 200 * 10 ** 9 - 1
SLIPS = (FRESH, ONE, SEVEN, BOTH, SINCE)


class Promising(unittest.TestCase):
    def test_a_lesser_ballot_promised(self):
        for slip in (FRESH, ONE, ((2, 0), ()), ((1, 9), ())):
            with self.subTest(slip):
                self.assertEqual(promising(((3, 5, slip),), (2, 1)), (((3, 5, TWO),), ((3, 5, TWO),)))

    def test_the_same_ballot_promised_is_told(self):
        for slip in (TWO, SEVEN, BOTH):
            with self.subTest(slip):
                self.assertEqual(promising(((3, 5, slip),), (2, 1)), (((3, 5, slip),), ((3, 5, slip),)))

    def test_a_greater_ballot_promised_is_not_told(self):
        for slip in (THREE, SINCE, ((2, 2), ()), ((FAR, 0), ())):
            with self.subTest(slip):
                self.assertEqual(promising(((3, 5, slip),), (2, 1)), (((3, 5, slip),), ()))

    def test_words_taken_stay(self):
        after = (((9, 3), SEVEN[1]), ((9, 3), BOTH[1]))
        self.assertEqual(promising(((0, 1, SEVEN), (5, 6, BOTH)), (9, 3)),
                         (((0, 1, after[0]), (5, 6, after[1])),) * 2)

    def test_several_at_once(self):
        holding = ((0, 1, FRESH), (2, 3, THREE), (4, 5, TWO), (7, 8, SEVEN), (9, 9, SINCE), (10, 12, ONE))
        behind = ((0, 1, TWO), (2, 3, THREE), (4, 5, TWO), (7, 8, SEVEN), (9, 9, SINCE), (10, 12, TWO))
        told = ((0, 1, TWO), (4, 5, TWO), (7, 8, SEVEN), (10, 12, TWO))
        self.assertEqual(promising(holding, (2, 1)), (behind, told))

    def test_runs_that_become_alike_and_touch_are_one(self):
        self.assertEqual(promising(((0, 1, FRESH), (2, 3, ONE), (4, 5, TWO)), (2, 1)), (((0, 5, TWO),),) * 2)
        self.assertEqual(promising(((0, 1, FRESH), (3, 3, ONE), (4, 5, TWO)), (2, 1)),
                         (((0, 1, TWO), (3, 5, TWO)),) * 2)
        self.assertEqual(promising(((0, 1, ONE), (2, 3, SEVEN), (4, 5, ONE)), (2, 1)),
                         (((0, 1, TWO), (2, 3, SEVEN), (4, 5, TWO)),) * 2)

    def test_the_same_once_more_changes_nothing(self):
        for holding, _ in all_holdings(3, SLIPS):
            behind, told = promising(holding, (2, 1))
            self.assertEqual(promising(behind, (2, 1)), (behind, told))

    def test_none_held(self):
        self.assertEqual(promising((), (2, 1)), ((), ()))

    def test_great_runs(self):
        self.assertEqual(promising(((0, LONG, FRESH), (LONG + 1, FAR, TWO)), (2, 1)), (((0, FAR, TWO),),) * 2)
        self.assertEqual(promising(STRIPES, (7, 0)), (((0, WHOLE, ((7, 0), ())),),) * 2)
        self.assertEqual(promising(STRIPES, (2, 0))[0],
                         tuple(run[:2] + ((((2, 0), ()), TWO)[at % 2],) for at, run in enumerate(STRIPES)))
        self.assertEqual(promising(STRIPES, (1, 0)), (STRIPES, STRIPES[::2]))

    def test_small_holdings(self):
        for ballot in ((1, 0), (1, 1), (2, 1), (4, 0), (5, 0), (5, 1)):
            for holding, held in all_holdings(4, SLIPS):
                behind = {point: (max(slip[0], ballot), slip[1]) for point, slip in held.items()}
                told = {point: slip for point, slip in behind.items() if slip[0] == ballot}
                self.assertEqual(promising(holding, ballot), (holding_by_points(behind), holding_by_points(told)))

    def test_by_names(self):
        self.assertEqual(promising(ballot=(2, 1), holding=((0, 0, ONE),)), (((0, 0, TWO),), ((0, 0, TWO),)))


class Taking(unittest.TestCase):
    def test_no_greater_ballot_promised(self):
        for slip in (FRESH, ONE, TWO, ((2, 0), ())):
            with self.subTest(slip):
                self.assertEqual(taking(((3, 5, slip),), (2, 1), 0, 7),
                                 (((3, 5, ((2, 1), ((0, (2, 1), 7),))),), ((3, 5),)))

    def test_a_greater_ballot_promised(self):
        for slip in (THREE, ((2, 2), ()), ((FAR, 0), ()), ((5, 0), ((4, (2, 1), 7),)), ((5, 0), ((0, (1, 0), 7),)),
                     ((5, 0), ((0, (3, 0), 7),)), ((5, 0), ((0, (2, 0), 7),))):
            with self.subTest(slip):
                self.assertEqual(taking(((3, 5, slip),), (2, 1), 0, 7), (((3, 5, slip),), ()))

    def test_those_that_took_just_this_ahead_are_told(self):
        for slip in (((2, 1), ((0, (2, 1), 7),)), BOTH, SINCE, ((9, 9), ((0, (2, 1), 7), (1, (9, 9), 4)))):
            with self.subTest(slip):
                self.assertEqual(taking(((3, 5, slip),), (2, 1), 0, 7), (((3, 5, slip),), ((3, 5),)))

    def test_in_the_place_of_what_it_took_of_the_row(self):
        taken = ((1, (1, 0), 5), (3, (1, 0), 6), (8, (2, 0), 4))
        for row, behind in ((1, ((1, (2, 1), 9), (3, (1, 0), 6), (8, (2, 0), 4))),
                            (3, ((1, (1, 0), 5), (3, (2, 1), 9), (8, (2, 0), 4))),
                            (8, ((1, (1, 0), 5), (3, (1, 0), 6), (8, (2, 1), 9)))):
            with self.subTest(row):
                self.assertEqual(taking(((0, 1, ((2, 0), taken)),), (2, 1), row, 9),
                                 (((0, 1, ((2, 1), behind)),), ((0, 1),)))

    def test_the_rows_of_taken_rise(self):
        taken = ((1, (1, 0), 5), (3, (1, 0), 6), (8, (2, 0), 4))
        for row, place in ((0, 0), (2, 1), (4, 2), (7, 2), (9, 3), (FAR, 3)):
            with self.subTest(row):
                behind = taken[:place] + ((row, (2, 1), 9),) + taken[place:]
                self.assertEqual(taking(((0, 1, ((2, 0), taken)),), (2, 1), row, 9),
                                 (((0, 1, ((2, 1), behind)),), ((0, 1),)))

    def test_another_row_or_word_is_not_this(self):
        for slip in (((5, 0), ((1, (2, 1), 7),)), ((5, 0), ((0, (2, 1), 8),)), ((5, 0), ((0, (2, 0), 7),)),
                     ((5, 0), ((0, (3, 1), 7),)), ((5, 0), ((0, (2, 2), 7),))):
            with self.subTest(slip):
                self.assertEqual(taking(((0, 1, slip), (2, 3, SINCE)), (2, 1), 0, 7),
                                 (((0, 1, slip), (2, 3, SINCE)), ((2, 3),)))

    def test_several_at_once(self):
        holding = ((0, 1, FRESH), (2, 3, THREE), (4, 5, SINCE), (6, 7, SEVEN), (8, 8, BOTH), (12, 13, SINCE))
        taken = ((2, 1), ((0, (2, 1), 7),))
        self.assertEqual(taking(holding, (2, 1), 0, 7),
                         (((0, 1, taken), (2, 3, THREE), (4, 5, SINCE), (6, 7, taken), (8, 8, BOTH), (12, 13, SINCE)),
                          ((0, 1), (4, 8), (12, 13))))

    def test_runs_that_become_alike_and_touch_are_one(self):
        taken = ((2, 1), ((0, (2, 1), 7),))
        self.assertEqual(taking(((0, 1, FRESH), (2, 3, ONE), (4, 5, SEVEN), (7, 7, TWO)), (2, 1), 0, 7),
                         (((0, 5, taken), (7, 7, taken)), ((0, 5), (7, 7))))

    def test_the_lot_of_runs_that_touch_is_one_run(self):
        self.assertEqual(taking(((0, 1, SINCE), (2, 3, BOTH), (5, 6, SINCE)), (2, 1), 0, 7)[1], ((0, 3), (5, 6)))

    def test_the_same_once_more_changes_nothing(self):
        for holding, _ in all_holdings(3, SLIPS):
            behind, lot = taking(holding, (2, 1), 4, 8)
            self.assertEqual(taking(behind, (2, 1), 4, 8), (behind, lot))

    def test_none_held(self):
        self.assertEqual(taking((), (2, 1), 0, 7), ((), ()))

    def test_great_runs(self):
        taken = ((7, 0), ((FAR, (7, 0), FAR),))
        self.assertEqual(taking(((0, LONG, FRESH), (LONG + 1, FAR, TWO)), (7, 0), FAR, FAR),
                         (((0, FAR, taken),), ((0, FAR),)))
        self.assertEqual(taking(STRIPES, (7, 0), FAR, FAR), (((0, WHOLE, taken),), ((0, WHOLE),)))
        behind, lot = taking(STRIPES, (1, 0), 2, 3)
        self.assertEqual(lot, tuple(run[:2] for run in STRIPES[::2]))
        self.assertEqual(behind[:2], ((0, 10 ** 9 - 1, ((1, 0), ((2, (1, 0), 3),))), STRIPES[1]))

    def test_small_holdings(self):
        for ballot, row, word in (((1, 0), 4, 8), ((1, 0), 4, 0), ((2, 1), 0, 7), ((2, 1), 4, 8), ((2, 0), 0, 7),
                                  ((5, 0), 0, 7), ((5, 1), 2, 7)):
            for holding, held in all_holdings(4, SLIPS):
                behind, lot = {}, []
                for point, (promised, taken) in held.items():
                    if promised <= ballot:
                        rows = {part[0]: part for part in taken}
                        rows[row] = (row, ballot, word)
                        promised, taken = ballot, tuple(rows[at] for at in sorted(rows))
                    behind[point] = (promised, taken)
                    if (row, ballot, word) in taken:
                        lot.append(point)
                self.assertEqual(taking(holding, ballot, row, word), (holding_by_points(behind), lot_by_points(lot)))

    def test_by_names(self):
        self.assertEqual(taking(word=7, row=0, ballot=(1, 0), holding=((0, 0, ONE),)),
                         (((0, 0, ((1, 0), ((0, (1, 0), 7),))),), ((0, 0),)))


class WhatIsTold(unittest.TestCase):
    def test_holdings_and_lots(self):
        for holding, _ in all_holdings(4, SLIPS):
            behind, told = promising(holding, (2, 1))
            self.assertTrue(is_holding(behind) and is_holding(told))
            behind, lot = taking(holding, (2, 1), 3, 5)
            self.assertTrue(is_holding(behind) and is_lot(lot))

    def test_nothing_handed_in_is_changed_and_the_same_is_told(self):
        holding = ((0, 1, FRESH), (2, 3, SEVEN), (4, 5, SINCE))
        before = copy.deepcopy(holding)
        for _ in range(2):
            self.assertEqual(promising(holding, (2, 1))[1], ((0, 1, TWO), (2, 3, SEVEN)))
            self.assertEqual(taking(holding, (2, 1), 0, 7)[1], ((0, 5),))
        self.assertEqual(holding, before)


if __name__ == "__main__":
    unittest.main()
