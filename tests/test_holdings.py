import copy
import itertools
import unittest

from ridingvotes.errors import Twice, VoteError
from ridingvotes.holdings import at_floor, cut, is_holding, lot_held, put_in, slip_at, slips_of
from ridingvotes.slips import FRESH, above
from tests.things import DEEPEST, FAR, LONG, ODD, all_holdings, all_lots, holding_by_points, lot_by_points

ONE = ((1, 0), ())
TWO = ((2, 1), ((0, (1, 0), 7),))
# Alike from row 1 on, and with nothing taken from row 2 on.
LOW = ((3, 0), ((0, (3, 0), 7), (1, (2, 0), 8)))
HIGH = ((3, 0), ((0, (2, 0), 9), (1, (2, 0), 8)))
BARE = ((3, 0), ())
HOLDING = ((0, 4, FRESH), (5, 9, TWO), (12, 12, FRESH), (20, 2 * LONG, ONE))
SMALL = all_holdings(4, (FRESH, TWO))
# 200 runs that touch, by turns with the one slip and the other.
STRIPES = tuple((at * 10 ** 9, (at + 1) * 10 ** 9 - 1, (ONE, TWO)[at % 2]) for at in range(200))
ONES = tuple(run[:2] for run in STRIPES[::2])
TWOS = tuple(run[:2] for run in STRIPES[1::2])


class IsHolding(unittest.TestCase):
    def test_holdings(self):
        for thing in ((), ((0, 0, FRESH),), ((0, FAR, TWO),), HOLDING, STRIPES, STRIPES[::2],
                      ((0, 0, FRESH), (1, 1, ONE), (2, 2, FRESH)), ((0, 0, FRESH), (2, 2, FRESH)),
                      ((3, 9, LOW), (10, 10, HIGH), (11, 11, BARE)), ((3, 9, LOW), (11, 12, LOW))):
            with self.subTest(thing):
                self.assertIs(is_holding(thing), True)
                self.assertIs(is_holding(thing=thing), True)

    def test_runs_that_touch_have_unlike_slips(self):
        for thing in (((0, 0, FRESH), (1, 1, FRESH)), ((0, 4, TWO), (5, 9, TWO)),
                      HOLDING + ((2 * LONG + 1, FAR, ONE),), ((0, 0, FRESH), (1, 1, ONE), (2, 2, ONE)),
                      ((0, 0, ONE), (2, 2, ONE), (3, 3, ONE))):
            with self.subTest(thing):
                self.assertIs(is_holding(thing), False)

    def test_no_point_twice_and_runs_rise(self):
        for thing in (((0, 4, FRESH), (4, 9, TWO)), ((0, 4, FRESH), (3, 4, TWO)), ((0, 9, FRESH), (3, 4, TWO)),
                      ((0, 4, FRESH), (0, 4, TWO)), ((0, 4, FRESH), (0, 4, FRESH)), ((5, 9, FRESH), (0, 4, TWO)),
                      ((5, 9, FRESH), (0, 3, FRESH)), ((0, 4, FRESH), (4, 4, FRESH)), ((1, 0, FRESH),),
                      ((0, 0, FRESH), (9, 8, TWO)), ((0, 1, FRESH), (9, 9, TWO), (8, 8, FRESH))):
            with self.subTest(thing):
                self.assertIs(is_holding(thing), False)

    def test_numbers(self):
        for ends in ((-1, 0), (-2, -1), (0, -1), (False, 0), (0, True), (True, True), (None, 0), (0, None), ("0", 0),
                     (0, "0"), ((0,), 0), (0, [0])):
            with self.subTest(ends):
                self.assertIs(is_holding((ends + (FRESH,),)), False)
                self.assertIs(is_holding((ends + (FRESH,), (7, 7, TWO))), False)

    def test_slips(self):
        for slip in (((False, 0), ()), ((0, True), ()), ((0, 1), ()), ([0, 0], ()), ((1, 0), []), ((1, 0),),
                     ((1, 0), ((0, (2, 0), 7),)), ((1, 0), ((1, (1, 0), 7), (0, (1, 0), 7))), (1, 0), (), None, True,
                     "", [(1, 0), ()], {}, 0):
            with self.subTest(slip):
                self.assertIs(is_holding(((0, 0, slip),)), False)
                self.assertIs(is_holding(((0, 0, FRESH), (4, 5, slip))), False)

    def test_kinds_and_parts(self):
        for thing in ([], [(0, 0, FRESH)], ([0, 0, FRESH],), ((0, 0),), ((0, 0, FRESH, FRESH),), (0, 0, FRESH), ((),),
                      ((0, FRESH),), ((0, 0, FRESH), None), ((0, 0, FRESH), [2, 2, FRESH]), ((0, 0, FRESH), (2, 2)),
                      ({0: 0, 1: 0, 2: FRESH},), {(0, 0, FRESH): 1}, ("abc",), FRESH, (FRESH,), ((0, 3), (5, 9))):
            with self.subTest(thing):
                self.assertIs(is_holding(thing), False)

    def test_of_anything(self):
        for thing in ODD:
            with self.subTest(thing):
                before = copy.deepcopy(thing)
                number = isinstance(thing, int) and not isinstance(thing, bool) and thing >= 0
                self.assertIs(is_holding(thing), False)
                self.assertIs(is_holding((thing,)), False)
                self.assertIs(is_holding(((0, 1, FRESH), thing)), False)
                self.assertIs(is_holding(((thing, FAR, FRESH),)), number)
                self.assertIs(is_holding(((0, thing, FRESH),)), number)
                self.assertIs(is_holding(((0, 0, thing),)), False)
                self.assertEqual(thing, before)

    def test_thirty_deep(self):
        for thing in DEEPEST:
            self.assertIs(is_holding(thing), False)

    def test_small_holdings(self):
        for holding, _ in SMALL:
            self.assertIs(is_holding(holding), True)


class LotHeld(unittest.TestCase):
    def test_examples(self):
        self.assertEqual(lot_held(()), ())
        self.assertEqual(lot_held(((3, 7, TWO),)), ((3, 7),))
        self.assertEqual(lot_held(HOLDING), ((0, 9), (12, 12), (20, 2 * LONG)))
        self.assertEqual(lot_held(holding=((0, 0, ONE), (2, 2, ONE))), ((0, 0), (2, 2)))
        self.assertEqual(lot_held(((0, 0, ONE), (1, 1, TWO), (2, 2, ONE), (4, 4, ONE))), ((0, 2), (4, 4)))

    def test_two_hundred_runs(self):
        self.assertEqual(lot_held(STRIPES), ((0, 200 * 10 ** 9 - 1),))
        self.assertEqual(lot_held(STRIPES[::2]), ONES)

    def test_small_holdings(self):
        for holding, held in SMALL:
            self.assertEqual(lot_held(holding), lot_by_points(held))


class SlipAt(unittest.TestCase):
    def test_points_held(self):
        for point, slip in ((0, FRESH), (4, FRESH), (5, TWO), (9, TWO), (12, FRESH), (20, ONE), (LONG, ONE),
                            (2 * LONG, ONE)):
            with self.subTest(point):
                self.assertEqual(slip_at(HOLDING, point), slip)

    def test_points_not_held(self):
        for point in (10, 11, 13, 19, 2 * LONG + 1, FAR):
            with self.subTest(point):
                self.assertIsNone(slip_at(HOLDING, point))
        self.assertIsNone(slip_at((), 0))
        self.assertIsNone(slip_at(((1, 1, FRESH),), 0))

    def test_two_hundred_runs(self):
        self.assertEqual(slip_at(STRIPES, 199 * 10 ** 9), TWO)
        self.assertEqual(slip_at(STRIPES, 199 * 10 ** 9 - 1), ONE)
        self.assertIsNone(slip_at(STRIPES, 200 * 10 ** 9))

    def test_small_holdings(self):
        for holding, held in SMALL:
            for point in range(5):
                self.assertEqual(slip_at(holding, point), held.get(point))

    def test_by_names(self):
        self.assertEqual(slip_at(point=5, holding=HOLDING), TWO)


class Cut(unittest.TestCase):
    def test_examples(self):
        self.assertEqual(cut(HOLDING, ()), ((), HOLDING))
        self.assertEqual(cut(HOLDING, ((0, FAR),)), (HOLDING, ()))
        self.assertEqual(cut((), ((0, 4),)), ((), ()))
        self.assertEqual(cut((), ()), ((), ()))
        self.assertEqual(cut(HOLDING, ((10, 11), (13, 19))), ((), HOLDING))
        self.assertEqual(cut(((0, 9, TWO),), ((3, 4), (6, 6))),
                         (((3, 4, TWO), (6, 6, TWO)), ((0, 2, TWO), (5, 5, TWO), (7, 9, TWO))))
        self.assertEqual(cut(((0, 4, FRESH), (5, 9, TWO)), ((4, 5),)),
                         (((4, 4, FRESH), (5, 5, TWO)), ((0, 3, FRESH), (6, 9, TWO))))
        self.assertEqual(cut(((0, 4, FRESH), (5, 9, TWO)), ((0, 4),)), (((0, 4, FRESH),), ((5, 9, TWO),)))

    def test_great_runs(self):
        self.assertEqual(cut(HOLDING, ((8, LONG),)),
                         (((8, 9, TWO), (12, 12, FRESH), (20, LONG, ONE)),
                          ((0, 4, FRESH), (5, 7, TWO), (LONG + 1, 2 * LONG, ONE))))

    def test_two_hundred_runs(self):
        self.assertEqual(cut(STRIPES, ONES), (STRIPES[::2], STRIPES[1::2]))
        self.assertEqual(cut(STRIPES, TWOS), (STRIPES[1::2], STRIPES[::2]))
        self.assertEqual(cut(STRIPES[::2], TWOS), ((), STRIPES[::2]))
        self.assertEqual(cut(STRIPES[::2], ONES[3:]), (STRIPES[6::2], STRIPES[:6:2]))

    def test_small_holdings(self):
        for (holding, held), (lot, points) in itertools.product(SMALL, all_lots(5)):
            part = {point: slip for point, slip in held.items() if point in points}
            rest = {point: slip for point, slip in held.items() if point not in points}
            self.assertEqual(cut(holding, lot), (holding_by_points(part), holding_by_points(rest)))

    def test_by_names(self):
        self.assertEqual(cut(lot=((0, 3),), holding=((0, 4, ONE),)), (((0, 3, ONE),), ((4, 4, ONE),)))


class PutIn(unittest.TestCase):
    def refused(self, one, other, point):
        with self.assertRaises(Twice) as caught:
            put_in(one, other)
        self.assertEqual(caught.exception.point, point)
        self.assertIsInstance(caught.exception, VoteError)

    def test_examples(self):
        self.assertEqual(put_in((), ()), ())
        self.assertEqual(put_in(HOLDING, ()), HOLDING)
        self.assertEqual(put_in((), HOLDING), HOLDING)
        self.assertEqual(put_in(((0, 4, FRESH),), ((6, 9, FRESH),)), ((0, 4, FRESH), (6, 9, FRESH)))
        self.assertEqual(put_in(((6, 9, FRESH),), ((0, 4, TWO),)), ((0, 4, TWO), (6, 9, FRESH)))
        self.assertEqual(put_in(((0, 0, ONE), (9, 9, ONE)), ((3, 4, TWO),)), ((0, 0, ONE), (3, 4, TWO), (9, 9, ONE)))

    def test_runs_that_touch(self):
        self.assertEqual(put_in(((0, 4, TWO),), ((5, 9, TWO),)), ((0, 9, TWO),))
        self.assertEqual(put_in(((5, 9, TWO),), ((0, 4, TWO),)), ((0, 9, TWO),))
        self.assertEqual(put_in(((0, 4, TWO),), ((5, 9, ONE),)), ((0, 4, TWO), (5, 9, ONE)))
        self.assertEqual(put_in(((0, 0, ONE), (2, 2, ONE)), ((1, 1, ONE),)), ((0, 2, ONE),))
        self.assertEqual(put_in(((0, 0, ONE), (2, 2, TWO)), ((1, 1, TWO), (3, 3, TWO))), ((0, 0, ONE), (1, 3, TWO)))
        self.assertEqual(put_in(((0, LONG, ONE),), ((LONG + 1, FAR, ONE),)), ((0, FAR, ONE),))

    def test_twice(self):
        self.refused(((0, 4, FRESH),), ((4, 9, FRESH),), 4)
        self.refused(((4, 9, FRESH),), ((0, 4, TWO),), 4)
        self.refused(((0, 9, FRESH),), ((2, 3, FRESH), (5, 5, TWO)), 2)
        self.refused(((2, 3, FRESH), (5, 5, TWO)), ((0, 1, ONE), (5, 9, FRESH)), 5)
        self.refused(HOLDING, HOLDING, 0)
        self.refused(((0, 0, ONE), (7, 8, ONE)), ((3, 3, ONE), (8, 8, ONE)), 8)
        self.refused(HOLDING, ((10, 11, TWO), (13, 19, TWO), (LONG, FAR, TWO)), LONG)

    def test_two_hundred_runs(self):
        self.assertEqual(put_in(STRIPES[::2], STRIPES[1::2]), STRIPES)
        self.assertEqual(put_in(STRIPES[100:], STRIPES[:100]), STRIPES)
        self.refused(STRIPES[::2], STRIPES[1::2][:-1] + ((198 * 10 ** 9 + 5, FAR, TWO),), 198 * 10 ** 9 + 5)

    def test_small_holdings(self):
        for (one, ahead), (other, behind) in itertools.product(SMALL, repeat=2):
            both = [point for point in ahead if point in behind]
            if both:
                self.refused(one, other, min(both))
            else:
                self.assertEqual(put_in(one, other), holding_by_points({**ahead, **behind}))

    def test_by_names(self):
        self.assertEqual(put_in(other=((0, 0, ONE),), one=((1, 1, TWO),)), ((0, 0, ONE), (1, 1, TWO)))


class AtFloor(unittest.TestCase):
    RUNS = ((0, 2, LOW), (3, 5, HIGH), (6, 6, BARE), (8, 9, LOW), (10, 12, TWO))

    def test_floors(self):
        ahead, none = ((3, 0), ((1, (2, 0), 8),)), ((2, 1), ())
        self.assertEqual(at_floor(self.RUNS, 0), self.RUNS)
        self.assertEqual(at_floor(self.RUNS, 1), ((0, 5, ahead), (6, 6, BARE), (8, 9, ahead), (10, 12, none)))
        self.assertEqual(at_floor(self.RUNS, 2), ((0, 6, BARE), (8, 9, BARE), (10, 12, none)))
        self.assertEqual(at_floor(self.RUNS, FAR), ((0, 6, BARE), (8, 9, BARE), (10, 12, none)))

    def test_nothing_taken(self):
        self.assertEqual(at_floor((), 3), ())
        self.assertEqual(at_floor(((0, 4, FRESH), (5, 9, ONE)), 3), ((0, 4, FRESH), (5, 9, ONE)))

    def test_two_hundred_runs(self):
        runs = tuple((at * 10 ** 9, (at + 1) * 10 ** 9 - 1, (LOW, HIGH)[at % 2]) for at in range(200))
        self.assertEqual(at_floor(runs, 0), runs)
        self.assertEqual(at_floor(runs, 2), ((0, 200 * 10 ** 9 - 1, BARE),))

    def test_small_holdings(self):
        for holding, held in all_holdings(4, (LOW, HIGH, BARE)):
            for floor in range(4):
                self.assertEqual(at_floor(holding, floor),
                                 holding_by_points({point: above(slip, floor) for point, slip in held.items()}))

    def test_by_names(self):
        self.assertEqual(at_floor(floor=2, holding=self.RUNS[:2]), ((0, 5, BARE),))


class SlipsOf(unittest.TestCase):
    def test_examples(self):
        self.assertEqual(slips_of(()), ())
        self.assertEqual(slips_of(((3, 4, TWO),)), ((TWO, ((3, 4),)),))
        self.assertEqual(slips_of(HOLDING), ((FRESH, ((0, 4), (12, 12))), (ONE, ((20, 2 * LONG),)), (TWO, ((5, 9),))))
        self.assertEqual(slips_of(holding=((0, 0, TWO), (2, 2, TWO), (3, 3, FRESH), (4, 4, TWO))),
                         ((FRESH, ((3, 3),)), (TWO, ((0, 0), (2, 2), (4, 4)))))

    def test_rising_by_promised_then_taken(self):
        slips = [((2, 0), ()), ((1, 9), ()), ((10, 0), ()), HIGH, LOW, BARE, FRESH, TWO, ((2, 1), ((0, (1, 0), 6),))]
        holding = tuple((2 * at, 2 * at, slip) for at, slip in enumerate(slips))
        self.assertEqual([slip for slip, _ in slips_of(holding)], sorted(slips))

    def test_two_hundred_runs(self):
        self.assertEqual(slips_of(STRIPES), ((ONE, ONES), (TWO, TWOS)))

    def test_small_holdings(self):
        for holding, held in all_holdings(4, (FRESH, ONE, TWO)):
            told = [(slip, lot_by_points([point for point in held if held[point] == slip]))
                    for slip in sorted(set(held.values()))]
            self.assertEqual(slips_of(holding), tuple(told))


class NothingIsChanged(unittest.TestCase):
    def test_the_same_question_is_told_the_same(self):
        holding, lot = copy.deepcopy(HOLDING), ((3, 7),)
        for _ in range(2):
            self.assertEqual(cut(holding, lot)[0], ((3, 4, FRESH), (5, 7, TWO)))
            self.assertEqual(put_in(holding, ((10, 10, ONE),))[2], (10, 10, ONE))
            self.assertEqual(at_floor(holding, 1)[1], (5, 9, ((2, 1), ())))
            with self.assertRaises(Twice):
                put_in(holding, holding)
            self.assertEqual(len(slips_of(holding)), 3)
        self.assertEqual((holding, lot), (HOLDING, ((3, 7),)))


if __name__ == "__main__":
    unittest.main()
