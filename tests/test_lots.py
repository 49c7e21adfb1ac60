import copy
import itertools
import unittest

from ridingvotes.errors import TooMany
from ridingvotes.lots import common, is_lot, is_within, joined, lot_of, picked, points_in, size, without
from tests.things import DEEPEST, FAR, LONG, ODD, all_lots, lot_by_points

SMALL = all_lots(6)
# 200 runs of one point each, with gaps of one point, and the points between them.
EVEN = tuple((2 * at, 2 * at) for at in range(200))
UNEVEN = tuple((2 * at + 1, 2 * at + 1) for at in range(200))
# 200 runs of 10 ** 9 points each, with gaps of one point.
WIDE = tuple((at * 10 ** 9, (at + 1) * 10 ** 9 - 2) for at in range(200))


class IsLot(unittest.TestCase):
    def test_lots(self):
        for thing in ((), ((0, 0),), ((0, FAR),), ((FAR, FAR),), ((0, 0), (2, 2)), ((0, 4), (6, 9)),
                      ((1, 1), (3, 3), (5, 8)), ((3, 9), (100, 2 * LONG)), EVEN, UNEVEN, WIDE):
            with self.subTest(thing):
                self.assertIs(is_lot(thing), True)

    def test_runs_that_touch_overlap_or_fall(self):
        for thing in (((0, 0), (1, 1)), ((0, 4), (5, 9)), ((0, 4), (4, 9)), ((0, 4), (3, 9)), ((0, 9), (3, 4)),
                      ((0, 4), (0, 4)), ((5, 9), (0, 3)), ((0, 0), (2, 2), (3, 3)), ((0, 0), (2, 2), (1, 1)),
                      ((2, 2), (4, 4), (0, 0)), ((1, 0),), ((4, 3),), ((0, 0), (9, 8)), ((9, 5), (11, 12)),
                      EVEN + ((399, 399),), EVEN + ((398, 500),)):
            with self.subTest(thing):
                self.assertIs(is_lot(thing), False)

    def test_numbers_below_0(self):
        for thing in (((-1, 0),), ((-1, -1),), ((-3, -1),), ((-3, -1), (1, 2)), ((0, -1),)):
            with self.subTest(thing):
                self.assertIs(is_lot(thing), False)

    def test_truths_are_no_numbers(self):
        for thing in (((False, 0),), ((0, True),), ((False, True),), ((True, True),), ((True, 4),),
                      ((0, 0), (2, True)), ((0, True), (3, 3)), ((False, False), (2, 2)), (True,), True):
            with self.subTest(thing):
                self.assertIs(is_lot(thing), False)

    def test_other_kinds_and_parts(self):
        for thing in ([(0, 0)], ([0, 0],), [], [[0, 0]], ((0, 0), [2, 2]), ((0,),), ((0, 0, 0),), (0, 0), ((),),
                      ((0, None),), ((None, 0),), (("0", "0"),), ((0, "0"),), ("00",), ({0: 0, 1: 1},), {(0, 0): 1},
                      ((0, 0), None), ((0, 0), 2), ((0, 0), (2,)), ((0, 0), (2, 2, 2)), (((0, 0),),), ((0, (0,)),)):
            with self.subTest(thing):
                self.assertIs(is_lot(thing), False)

    def test_of_anything(self):
        for thing in ODD:
            with self.subTest(thing):
                self.assertIs(is_lot(thing), False)
                self.assertIs(is_lot((thing,)), False)
                self.assertIs(is_lot(((0, 1), thing)), False)
                self.assertIs(is_lot(((0, thing),)), isinstance(thing, int) and not isinstance(thing, bool)
                              and thing >= 0)
                self.assertIs(is_lot(((thing, FAR),)), isinstance(thing, int) and not isinstance(thing, bool)
                              and thing >= 0)

    def test_thirty_deep(self):
        for thing in DEEPEST:
            self.assertIs(is_lot(thing), False)

    def test_what_is_handed_in_stays(self):
        for thing in ODD:
            before = copy.deepcopy(thing)
            is_lot(thing)
            self.assertEqual(thing, before)

    def test_by_name(self):
        self.assertIs(is_lot(thing=((0, 3),)), True)


class LotOf(unittest.TestCase):
    def test_examples(self):
        self.assertEqual(lot_of(()), ())
        self.assertEqual(lot_of((7,)), ((7, 7),))
        self.assertEqual(lot_of((0, 1, 2)), ((0, 2),))
        self.assertEqual(lot_of((0, 2)), ((0, 0), (2, 2)))
        self.assertEqual(lot_of((5, 3, 4, 0, 9, 8)), ((0, 0), (3, 5), (8, 9)))
        self.assertEqual(lot_of((3, 3, 3)), ((3, 3),))
        self.assertEqual(lot_of((4, 3, 4, 9, 3, 9)), ((3, 4), (9, 9)))
        self.assertEqual(lot_of((FAR, 0, FAR - 1)), ((0, 0), (FAR - 1, FAR)))

    def test_in_any_order_and_told_twice(self):
        for told in itertools.product(range(5), repeat=4):
            self.assertEqual(lot_of(told), lot_by_points(told))

    def test_many_points(self):
        self.assertEqual(lot_of(tuple(range(398, -1, -2))), EVEN)
        self.assertEqual(lot_of(tuple(range(1000, -1, -1))), ((0, 1000),))

    def test_what_is_handed_in_stays(self):
        points = (4, 3, 4)
        self.assertEqual(lot_of(points), lot_of(points))
        self.assertEqual(points, (4, 3, 4))

    def test_by_name(self):
        self.assertEqual(lot_of(points=(1, 0)), ((0, 1),))


class Size(unittest.TestCase):
    def test_examples(self):
        self.assertEqual(size(()), 0)
        self.assertEqual(size(((0, 0),)), 1)
        self.assertEqual(size(((3, 7),)), 5)
        self.assertEqual(size(((0, 0), (2, 2), (4, 9))), 8)
        self.assertEqual(size(lot=((FAR, FAR),)), 1)

    def test_great_lots(self):
        self.assertEqual(size(((0, LONG - 1),)), LONG)
        self.assertEqual(size(((5, LONG + 4), (2 * LONG, 3 * LONG))), 2 * LONG + 1)
        self.assertEqual(size(((0, FAR),)), 10 ** 12)
        self.assertEqual(size(EVEN), 200)
        self.assertEqual(size(WIDE), 200 * (10 ** 9 - 1))

    def test_small_lots(self):
        for lot, points in SMALL:
            self.assertEqual(size(lot), len(points))


class OfTwo(unittest.TestCase):
    def test_joined(self):
        self.assertEqual(joined((), ()), ())
        self.assertEqual(joined(((0, 3),), ()), ((0, 3),))
        self.assertEqual(joined((), ((0, 3),)), ((0, 3),))
        self.assertEqual(joined(((0, 3),), ((4, 9),)), ((0, 9),))
        self.assertEqual(joined(((4, 9),), ((0, 3),)), ((0, 9),))
        self.assertEqual(joined(((0, 3),), ((5, 9),)), ((0, 3), (5, 9)))
        self.assertEqual(joined(((5, 9),), ((0, 3),)), ((0, 3), (5, 9)))
        self.assertEqual(joined(((0, 3), (5, 9)), ((4, 4),)), ((0, 9),))
        self.assertEqual(joined(((0, 9),), ((2, 3), (5, 5))), ((0, 9),))
        self.assertEqual(joined(((2, 5), (20, 22)), ((4, 9), (21, 30))), ((2, 9), (20, 30)))

    def test_common(self):
        self.assertEqual(common((), ()), ())
        self.assertEqual(common(((0, 3),), ()), ())
        self.assertEqual(common((), ((0, 3),)), ())
        self.assertEqual(common(((0, 3),), ((4, 9),)), ())
        self.assertEqual(common(((0, 4),), ((4, 9),)), ((4, 4),))
        self.assertEqual(common(((0, 9),), ((2, 3), (5, 5))), ((2, 3), (5, 5)))
        self.assertEqual(common(((0, 2), (4, 9)), ((2, 5), (9, 12))), ((2, 2), (4, 5), (9, 9)))

    def test_without(self):
        self.assertEqual(without((), ()), ())
        self.assertEqual(without((), ((0, 3),)), ())
        self.assertEqual(without(((0, 3),), ()), ((0, 3),))
        self.assertEqual(without(((0, 3),), ((0, 3),)), ())
        self.assertEqual(without(((0, 3),), ((4, 9),)), ((0, 3),))
        self.assertEqual(without(((4, 9),), ((0, 3),)), ((4, 9),))
        self.assertEqual(without(((0, 9),), ((3, 3),)), ((0, 2), (4, 9)))
        self.assertEqual(without(((0, 9),), ((0, 0), (9, 9))), ((1, 8),))
        self.assertEqual(without(((0, 4), (6, 9)), ((3, 7), (20, 30))), ((0, 2), (8, 9)))

    def test_is_within(self):
        self.assertIs(is_within((), ()), True)
        self.assertIs(is_within((), ((0, 3),)), True)
        self.assertIs(is_within(((0, 3),), ()), False)
        self.assertIs(is_within(((0, 3),), ((0, 3),)), True)
        self.assertIs(is_within(((1, 2),), ((0, 3),)), True)
        self.assertIs(is_within(((0, 3),), ((1, 2),)), False)
        self.assertIs(is_within(((0, 3),), ((0, 1), (3, 3))), False)
        self.assertIs(is_within(((0, 1), (3, 3)), ((0, 3),)), True)
        self.assertIs(is_within(((0, 1), (3, 3)), ((0, 1), (3, 3))), True)
        self.assertIs(is_within(((0, 1), (3, 4)), ((0, 1), (3, 3))), False)
        self.assertIs(is_within(((0, 0), (9, 9)), ((0, 3),)), False)

    def test_all_small_lots(self):
        for (one, ahead), (other, behind) in itertools.product(SMALL, repeat=2):
            self.assertEqual(joined(one, other), lot_by_points(ahead | behind))
            self.assertEqual(common(one, other), lot_by_points(ahead & behind))
            self.assertEqual(without(one, other), lot_by_points(ahead - behind))
            self.assertIs(is_within(one, other), ahead <= behind)

    def test_great_runs(self):
        great = ((0, LONG), (3 * LONG, FAR))
        self.assertEqual(joined(great, ((LONG + 1, 3 * LONG - 1),)), ((0, FAR),))
        self.assertEqual(joined(great, ((LONG + 2, 3 * LONG - 2),)),
                         ((0, LONG), (LONG + 2, 3 * LONG - 2), (3 * LONG, FAR)))
        self.assertEqual(common(great, ((1, FAR - 1),)), ((1, LONG), (3 * LONG, FAR - 1)))
        self.assertEqual(common(great, ((LONG, 3 * LONG),)), ((LONG, LONG), (3 * LONG, 3 * LONG)))
        self.assertEqual(without(great, ((7, 7), (LONG, 3 * LONG))), ((0, 6), (8, LONG - 1), (3 * LONG + 1, FAR)))
        self.assertIs(is_within(great, ((0, FAR),)), True)
        self.assertIs(is_within(((0, FAR),), great), False)
        self.assertIs(is_within(((1, LONG), (FAR, FAR)), great), True)
        self.assertIs(is_within(((1, LONG + 1),), great), False)

    def test_two_hundred_runs(self):
        self.assertEqual(joined(EVEN, UNEVEN), ((0, 399),))
        self.assertEqual(joined(EVEN, ((397, 397),)), EVEN[:-2] + ((396, 398),))
        self.assertEqual(common(EVEN, UNEVEN), ())
        self.assertEqual(common(EVEN, ((3, 396),)), EVEN[2:-1])
        self.assertEqual(without(EVEN, UNEVEN), EVEN)
        self.assertEqual(without(((0, 399),), EVEN), UNEVEN)
        self.assertEqual(without(((0, 398),), UNEVEN), EVEN)
        self.assertIs(is_within(EVEN, ((0, 398),)), True)
        self.assertIs(is_within(EVEN, ((0, 397),)), False)
        self.assertIs(is_within(EVEN, UNEVEN), False)
        self.assertEqual(common(WIDE, ((0, 10 ** 9),)), (WIDE[0], (10 ** 9, 10 ** 9)))
        self.assertEqual(without(((0, WIDE[-1][1]),), WIDE), tuple((last + 1, last + 1) for _, last in WIDE[:-1]))

    def test_by_names(self):
        self.assertEqual(joined(one=((0, 0),), other=((1, 1),)), ((0, 1),))
        self.assertEqual(common(other=((1, 1),), one=((0, 1),)), ((1, 1),))
        self.assertEqual(without(other=((1, 1),), one=((0, 1),)), ((0, 0),))
        self.assertIs(is_within(other=((1, 1),), one=((0, 1),)), False)
        self.assertIs(is_within(one=((1, 1),), other=((0, 1),)), True)


class Picked(unittest.TestCase):
    LOT = ((2, 4), (6, 6), (9, 12))

    def test_skip_left_out(self):
        self.assertEqual(picked(self.LOT, 0), ())
        self.assertEqual(picked(self.LOT, 1), ((2, 2),))
        self.assertEqual(picked(self.LOT, 3), ((2, 4),))
        self.assertEqual(picked(self.LOT, 4), ((2, 4), (6, 6)))
        self.assertEqual(picked(self.LOT, 5), ((2, 4), (6, 6), (9, 9)))
        self.assertEqual(picked(self.LOT, 8), self.LOT)
        self.assertEqual(picked(self.LOT, 9), self.LOT)
        self.assertEqual(picked(self.LOT, FAR), self.LOT)
        self.assertEqual(picked((), 0), ())
        self.assertEqual(picked((), 5), ())

    def test_skip(self):
        self.assertEqual(picked(self.LOT, 4, skip=0), ((2, 4), (6, 6)))
        self.assertEqual(picked(self.LOT, 4, skip=1), ((3, 4), (6, 6), (9, 9)))
        self.assertEqual(picked(self.LOT, 1, skip=3), ((6, 6),))
        self.assertEqual(picked(self.LOT, 2, skip=4), ((9, 10),))
        self.assertEqual(picked(self.LOT, 2, skip=5), ((10, 11),))
        self.assertEqual(picked(self.LOT, 0, skip=5), ())
        self.assertEqual(picked(self.LOT, 9, skip=7), ((12, 12),))
        self.assertEqual(picked((), 3, skip=2), ())

    def test_skip_beyond_the_end(self):
        for skip in (8, 9, 100, FAR):
            self.assertEqual(picked(self.LOT, 3, skip=skip), ())
            self.assertEqual(picked(self.LOT, 0, skip=skip), ())
            self.assertEqual(picked(self.LOT, FAR, skip=skip), ())

    def test_all_small_lots(self):
        for lot, points in SMALL:
            for many, skip in itertools.product(range(8), repeat=2):
                self.assertEqual(picked(lot, many, skip=skip), lot_by_points(sorted(points)[skip:skip + many]))

    def test_great_lots(self):
        great = ((5, LONG + 4), (2 * LONG, 3 * LONG))
        self.assertEqual(picked(great, LONG), ((5, LONG + 4),))
        self.assertEqual(picked(great, LONG + 1), ((5, LONG + 4), (2 * LONG, 2 * LONG)))
        self.assertEqual(picked(great, 2 * LONG, skip=1), ((6, LONG + 4), (2 * LONG, 3 * LONG)))
        self.assertEqual(picked(great, 3, skip=LONG - 1), ((LONG + 4, LONG + 4), (2 * LONG, 2 * LONG + 1)))
        self.assertEqual(picked(great, 3, skip=2 * LONG), ((3 * LONG, 3 * LONG),))
        self.assertEqual(picked(great, 3, skip=2 * LONG + 1), ())
        self.assertEqual(picked(WIDE, 2, skip=199 * (10 ** 9 - 1) - 1), (WIDE[198][1:] * 2, WIDE[199][:1] * 2))

    def test_by_names(self):
        self.assertEqual(picked(skip=1, many=2, lot=self.LOT), ((3, 4),))
        with self.assertRaises(TypeError):
            picked(self.LOT, 2, 1)


class PointsIn(unittest.TestCase):
    def refused(self, lot, many, **told):
        with self.assertRaises(TooMany) as caught:
            points_in(lot, **told)
        self.assertEqual(caught.exception.many, many)

    def test_most_left_out(self):
        self.assertEqual(points_in(()), ())
        self.assertEqual(points_in(((7, 7),)), (7,))
        self.assertEqual(points_in(((0, 2), (5, 6))), (0, 1, 2, 5, 6))
        self.assertEqual(points_in(((1, 200),)), tuple(range(1, 201)))
        self.assertEqual(points_in(EVEN), tuple(range(0, 400, 2)))
        self.refused(((0, 200),), 201)
        self.refused(EVEN + ((400, 400),), 201)
        self.refused(((0, LONG - 1),), LONG)

    def test_most(self):
        self.assertEqual(points_in((), most=0), ())
        self.assertEqual(points_in(((3, 4), (6, 6)), most=3), (3, 4, 6))
        self.assertEqual(points_in(((3, 4), (6, 6)), most=4), (3, 4, 6))
        self.assertEqual(points_in(((0, 999),), most=1000), tuple(range(1000)))
        self.assertEqual(points_in(((FAR, FAR),), most=1), (FAR,))
        self.refused(((3, 4), (6, 6)), 3, most=2)
        self.refused(((3, 4), (6, 6)), 3, most=0)
        self.refused(((3, 3),), 1, most=0)
        self.refused(((0, 1000),), 1001, most=1000)
        self.refused(((0, LONG), (2 * LONG, 3 * LONG)), 2 * LONG + 2, most=LONG)

    def test_small_lots(self):
        for lot, points in SMALL:
            self.assertEqual(points_in(lot), tuple(sorted(points)))
            self.assertEqual(points_in(lot, most=len(points)), tuple(sorted(points)))
            if points:
                self.refused(lot, len(points), most=len(points) - 1)

    def test_by_names(self):
        self.assertEqual(points_in(most=2, lot=((3, 4),)), (3, 4))
        with self.assertRaises(TypeError):
            points_in(((3, 4),), 2)


class LotsAreLots(unittest.TestCase):
    def test_what_is_told_is_a_lot(self):
        for lot, points in SMALL:
            self.assertIs(is_lot(lot), True)
            self.assertIs(is_lot(lot_of(tuple(points))), True)


if __name__ == "__main__":
    unittest.main()
