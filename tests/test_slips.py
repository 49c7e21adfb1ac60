import copy
import itertools
import unittest

from ridingvotes.slips import FRESH, NONE, above, is_ballot, is_later, is_slip, later
from tests.things import DEEPEST, FAR, ODD

FULL = ((3, 1), ((0, (1, 0), 7), (2, (3, 1), 0), (5, (2, 9), 7)))


def small_slips():
    """All slips of three ballots, two rows and two words."""
    ballots = ((1, 0), (1, 1), (2, 0))
    found = []
    for promised in (NONE,) + ballots:
        taken = [(ballot, word) for ballot in ballots if ballot <= promised for word in (4, 3)]
        for parts in itertools.product([None] + taken, repeat=2):
            rows = [(row,) + part for row, part in enumerate(parts) if part is not None]
            found.append((promised, tuple(rows)))
    return found


def is_later_row_by_row(one, other, floor):
    if other[0] < one[0]:
        return False
    for row, ballot, word in one[1]:
        if row >= floor:
            like = [part for part in other[1] if part[0] == row]
            if not like or like[0][1] < ballot or (like[0][1] == ballot and like[0][2] != word):
                return False
    return True


class Values(unittest.TestCase):
    def test_none_and_fresh(self):
        self.assertEqual(NONE, (0, 0))
        self.assertEqual(FRESH, ((0, 0), ()))
        self.assertEqual(repr((NONE, FRESH)), "((0, 0), ((0, 0), ()))")


class IsBallot(unittest.TestCase):
    def test_ballots(self):
        for thing in ((1, 0), (1, 1), (2, 0), (1, 8), (7, 1000), (FAR, FAR)):
            with self.subTest(thing):
                self.assertIs(is_ballot(thing), True)
                self.assertIs(is_ballot(thing=thing), True)

    def test_none_is_no_ballot(self):
        self.assertIs(is_ballot(NONE), False)

    def test_numbers_too_small(self):
        for thing in ((0, 1), (0, 7), (-1, 0), (1, -1), (-1, -1), (0, -1)):
            with self.subTest(thing):
                self.assertIs(is_ballot(thing), False)

    def test_other_kinds_and_parts(self):
        for thing in ((True, 0), (1, False), (1, True), (True, True), [1, 0], (1,), (1, 0, 0), ("1", "0"), ("1", 0),
                      (1, "0"), (1, None), (None, 0), ((1, 0),), ((1, 0), 0), ((1,), (0,)), ([1], 0), "10", {1: 0},
                      {0: 1, 1: 0}, {}, [], (), ((), ())):
            with self.subTest(thing):
                self.assertIs(is_ballot(thing), False)

    def test_of_anything(self):
        for thing in ODD + [()]:
            with self.subTest(thing):
                before = copy.deepcopy(thing)
                number = isinstance(thing, int) and not isinstance(thing, bool)
                self.assertIs(is_ballot(thing), False)
                self.assertIs(is_ballot((1, thing)), number and thing >= 0)
                self.assertIs(is_ballot((thing, 0)), number and thing >= 1)
                self.assertEqual(thing, before)

    def test_thirty_deep(self):
        for thing in DEEPEST:
            self.assertIs(is_ballot(thing), False)


class IsSlip(unittest.TestCase):
    def test_slips(self):
        for thing in (FRESH, ((1, 0), ()), ((FAR, FAR), ()), FULL, ((1, 0), ((0, (1, 0), 0),)),
                      ((2, 0), ((4, (1, 9), 3),)), ((2, 5), ((0, (2, 5), 3), (1, (2, 5), 3), (FAR, (1, 0), FAR))),
                      ((9, 0), tuple((row, (row + 1, 0), 9 - row) for row in range(8)))):
            with self.subTest(thing):
                self.assertIs(is_slip(thing), True)
                self.assertIs(is_slip(thing=thing), True)

    def test_no_ballot_greater_than_promised(self):
        for thing in (((1, 0), ((0, (1, 1), 7),)), ((1, 0), ((0, (2, 0), 7),)),
                      ((2, 1), ((0, (1, 9), 7), (1, (2, 2), 7))),
                      (NONE, ((0, (1, 0), 7),)), ((1, 4), ((0, (FAR, 0), 7), (1, (1, 0), 7)))):
            with self.subTest(thing):
                self.assertIs(is_slip(thing), False)

    def test_rows_rise_and_none_stands_twice(self):
        for rows in ((1, 0), (0, 0), (0, 1, 1), (0, 2, 1), (5, 4, 6)):
            with self.subTest(rows):
                self.assertIs(is_slip(((9, 0), tuple((row, (1, 0), 7) for row in rows))), False)
        for thing in (((9, 0), ((0, (1, 0), 7), (0, (2, 0), 7))), ((9, 0), ((0, (1, 0), 7), (0, (1, 0), 8))),
                      ((9, 0), ((0, (2, 0), 7), (0, (1, 0), 7)))):
            with self.subTest(thing):
                self.assertIs(is_slip(thing), False)

    def test_promised_is_a_ballot_or_none(self):
        for promised in ((0, 1), (-1, 0), (1, -1), (False, 0), (0, False), (False, False), (True, 0), (1, False),
                         [0, 0], [1, 0], (), (0,), (1,), (0, 0, 0), (1, 0, 0), 0, 1, None, True, "", "00", {}):
            with self.subTest(promised):
                self.assertIs(is_slip((promised, ())), False)

    def test_taken_parts(self):
        ballot = (1, 0)
        for part in ((-1, ballot, 7), (0, ballot, -1), (True, ballot, 7), (False, ballot, 7), (0, ballot, True),
                     (0, ballot, False), (0, NONE, 7), (0, (True, 0), 7), (0, (1, False), 7), (0, [1, 0], 7),
                     (0, (1,), 7), (0, (1, 0, 0), 7), (0, (0, 1), 7), (0, (1, -1), 7), (0, ballot), (0, ballot, 7, 7),
                     [0, ballot, 7], (None, ballot, 7), (0, None, 7), (0, ballot, None), ("0", ballot, 7),
                     (0, ballot, "7"), (0, "10", 7), (), 0, None, True, "abc", {}, {0: 0, 1: ballot, 2: 7}, (0, 1, 7)):
            with self.subTest(part):
                self.assertIs(is_slip(((2, 0), (part,))), False)
                self.assertIs(is_slip(((2, 0), ((0, ballot, 7), part))), False)

    def test_kinds_and_parts(self):
        for thing in ([(1, 0), ()], ((1, 0), []), ((1, 0), [(0, (1, 0), 7)]), ((1, 0),), ((1, 0), (), ()), (NONE,),
                      NONE, (1, 0), ((1, 0), None), ((1, 0), 0), ((1, 0), ""), ((1, 0), {}), ((), ()), ("", ()),
                      {0: (1, 0), 1: ()}, "ab", ((1, 0), (0, (1, 0), 7))):
            with self.subTest(thing):
                self.assertIs(is_slip(thing), False)

    def test_of_anything(self):
        for thing in ODD + [()]:
            with self.subTest(thing):
                before = copy.deepcopy(thing)
                number = isinstance(thing, int) and not isinstance(thing, bool) and thing >= 0
                self.assertIs(is_slip(thing), False)
                self.assertIs(is_slip((thing, ())), False)
                self.assertIs(is_slip(((1, 0), thing)), thing == ())
                self.assertIs(is_slip(((1, 0), (thing,))), False)
                self.assertIs(is_slip(((1, 0), ((thing, (1, 0), 7),))), number)
                self.assertIs(is_slip(((1, 0), ((0, thing, 7),))), False)
                self.assertIs(is_slip(((1, 0), ((0, (1, 0), thing),))), number)
                self.assertEqual(thing, before)

    def test_thirty_deep(self):
        for thing in DEEPEST:
            self.assertIs(is_slip(thing), False)

    def test_small_slips(self):
        for slip in small_slips():
            self.assertIs(is_slip(slip), True)


class Above(unittest.TestCase):
    def test_floors(self):
        promised, taken = FULL
        self.assertEqual(above(FULL, 0), FULL)
        self.assertEqual(above(FULL, 1), (promised, taken[1:]))
        self.assertEqual(above(FULL, 2), (promised, taken[1:]))
        self.assertEqual(above(FULL, 3), (promised, taken[2:]))
        self.assertEqual(above(FULL, 5), (promised, taken[2:]))
        self.assertEqual(above(FULL, 6), (promised, ()))
        self.assertEqual(above(FULL, FAR), (promised, ()))

    def test_nothing_taken(self):
        self.assertEqual(above(FRESH, 0), FRESH)
        self.assertEqual(above(FRESH, 3), FRESH)
        self.assertEqual(above(((4, 2), ()), 3), ((4, 2), ()))

    def test_by_names(self):
        self.assertEqual(above(floor=3, slip=FULL), ((3, 1), ((5, (2, 9), 7),)))
        self.assertEqual(FULL, ((3, 1), ((0, (1, 0), 7), (2, (3, 1), 0), (5, (2, 9), 7))))


class IsLater(unittest.TestCase):
    def test_promised(self):
        self.assertIs(is_later(FRESH, FRESH), True)
        self.assertIs(is_later(FRESH, ((1, 0), ())), True)
        self.assertIs(is_later(((1, 0), ()), FRESH), False)
        self.assertIs(is_later(((1, 1), ()), ((1, 1), ())), True)
        self.assertIs(is_later(((1, 1), ()), ((1, 0), ())), False)
        self.assertIs(is_later(((1, 1), ()), ((2, 0), ())), True)
        self.assertIs(is_later(((2, 0), ()), ((1, 1), ())), False)

    def test_words(self):
        one = ((5, 0), ((3, (2, 1), 7),))
        self.assertIs(is_later(one, one), True)
        self.assertIs(is_later(one, ((6, 0), ((3, (2, 1), 7),))), True)
        self.assertIs(is_later(one, ((6, 0), ((3, (2, 1), 8),))), False)
        self.assertIs(is_later(one, ((6, 0), ((3, (2, 1), 6),))), False)
        self.assertIs(is_later(one, ((6, 0), ((3, (2, 2), 8),))), True)
        self.assertIs(is_later(one, ((6, 0), ((3, (2, 2), 6),))), True)
        self.assertIs(is_later(one, ((6, 0), ((3, (2, 2), 7),))), True)
        self.assertIs(is_later(one, ((6, 0), ((3, (3, 0), 1),))), True)
        self.assertIs(is_later(one, ((6, 0), ((3, (2, 0), 7),))), False)
        self.assertIs(is_later(one, ((6, 0), ((3, (1, 9), 9),))), False)
        self.assertIs(is_later(one, ((6, 0), ())), False)
        self.assertIs(is_later(one, ((6, 0), ((2, (6, 0), 7), (4, (6, 0), 7)))), False)
        self.assertIs(is_later(((6, 0), ()), ((6, 0), ((3, (2, 1), 7),))), True)

    def test_promised_counts_beside_greater_words(self):
        self.assertIs(is_later(((5, 0), ((3, (2, 1), 7),)), ((4, 9), ((3, (4, 9), 7),))), False)

    def test_each_row_counts(self):
        one = ((5, 0), ((0, (1, 0), 7), (3, (2, 1), 7)))
        self.assertIs(is_later(one, ((5, 0), ((0, (1, 0), 7), (1, (5, 0), 9), (3, (2, 1), 7)))), True)
        self.assertIs(is_later(one, ((5, 0), ((0, (1, 0), 8), (3, (5, 0), 7)))), False)
        self.assertIs(is_later(one, ((5, 0), ((0, (5, 0), 7), (3, (2, 1), 8)))), False)
        self.assertIs(is_later(one, ((5, 0), ((0, (5, 0), 7),))), False)
        self.assertIs(is_later(one, ((5, 0), ((3, (5, 0), 7),))), False)

    def test_floor(self):
        one = ((5, 0), ((1, (2, 0), 7), (3, (2, 1), 7)))
        other = ((5, 0), ((3, (2, 1), 7),))
        self.assertIs(is_later(one, other), False)
        self.assertIs(is_later(one, other, floor=0), False)
        self.assertIs(is_later(one, other, floor=1), False)
        self.assertIs(is_later(one, other, floor=2), True)
        self.assertIs(is_later(one, other, floor=3), True)
        none = ((5, 0), ())
        self.assertIs(is_later(one, none, floor=2), False)
        self.assertIs(is_later(one, none, floor=3), False)
        self.assertIs(is_later(one, none, floor=4), True)
        self.assertIs(is_later(one, ((4, 9), ()), floor=4), False)
        self.assertIs(is_later(((0, 0), ()), ((1, 0), ((3, (1, 0), 7),)), floor=9), True)

    def test_all_small_slips(self):
        for one, other in itertools.product(small_slips(), repeat=2):
            self.assertIs(is_later(one, other), is_later_row_by_row(one, other, 0))
            for floor in range(3):
                self.assertIs(is_later(one, other, floor=floor), is_later_row_by_row(one, other, floor))

    def test_by_names(self):
        self.assertIs(is_later(floor=0, other=((1, 0), ()), one=FRESH), True)
        self.assertIs(is_later(one=((1, 0), ()), other=FRESH), False)
        with self.assertRaises(TypeError):
            is_later(FRESH, FRESH, 0)


class Later(unittest.TestCase):
    def test_other_where_it_is_no_earlier(self):
        one = ((5, 0), ((3, (2, 1), 7),))
        for other in (one, ((6, 0), ((3, (2, 1), 7),)), ((5, 0), ((3, (3, 0), 9),)),
                      ((5, 0), ((1, (1, 0), 2), (3, (2, 1), 7)))):
            with self.subTest(other):
                self.assertEqual(later(one, other), other)
        self.assertEqual(later(FRESH, one), one)

    def test_else_one(self):
        one = ((5, 0), ((3, (2, 1), 7),))
        for other in (FRESH, ((6, 0), ()), ((6, 0), ((3, (2, 1), 8),)), ((6, 0), ((3, (2, 0), 7),)),
                      ((4, 9), ((3, (3, 0), 7),))):
            with self.subTest(other):
                self.assertEqual(later(one, other), one)

    def test_neither_is_later(self):
        one, other = ((5, 0), ()), ((4, 0), ((0, (4, 0), 7),))
        self.assertEqual(later(one, other), one)
        self.assertEqual(later(other, one), other)

    def test_all_rows_count(self):
        one, other = ((5, 0), ((0, (2, 1), 7),)), ((6, 0), ((0, (2, 1), 8),))
        self.assertEqual(later(one, other), one)

    def test_all_small_slips(self):
        for one, other in itertools.product(small_slips(), repeat=2):
            self.assertEqual(later(one, other), other if is_later_row_by_row(one, other, 0) else one)

    def test_by_names(self):
        self.assertEqual(later(other=((1, 0), ()), one=FRESH), ((1, 0), ()))
        self.assertEqual(later(other=FRESH, one=((1, 0), ())), ((1, 0), ()))


if __name__ == "__main__":
    unittest.main()
