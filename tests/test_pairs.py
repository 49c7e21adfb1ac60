import unittest

from ridingvotes.pairs import pairs_from, put, replaced, worth, written

PAIRS = ((1, 7), (3, 0), (4, 9))


class Pairs(unittest.TestCase):
    def test_worth(self):
        self.assertEqual([worth(PAIRS, row) for row in range(6)], [None, 7, None, 0, 9, None])
        self.assertEqual(worth(((0, ()),), 0), ())
        self.assertIsNone(worth((), 0))

    def test_put(self):
        self.assertEqual(put((), 2, 5), ((2, 5),))
        self.assertEqual(put(PAIRS, 5, 1), PAIRS + ((5, 1),))
        self.assertEqual(put(PAIRS, 0, 1), ((0, 1),) + PAIRS)
        self.assertEqual(put(PAIRS, 2, 1), ((1, 7), (2, 1), (3, 0), (4, 9)))
        self.assertEqual(put(PAIRS, 3, 8), ((1, 7), (3, 8), (4, 9)))
        self.assertEqual(put(PAIRS, 4, 8), ((1, 7), (3, 0), (4, 8)))
        self.assertEqual(put(((0, ((1, 2),)),), 0, ((1, 9),)), ((0, ((1, 9),)),))

    def test_pairs_from(self):
        self.assertEqual([pairs_from(PAIRS, floor) for floor in range(6)],
                         [PAIRS, PAIRS, PAIRS[1:], PAIRS[1:], PAIRS[2:], ()])
        self.assertEqual(pairs_from((), 3), ())

    def test_replaced(self):
        self.assertEqual([replaced((5, 6, 7), at, 0) for at in range(3)], [(0, 6, 7), (5, 0, 7), (5, 6, 0)])


class Logs(unittest.TestCase):
    LOG = ((0, (2, 1), 7, ((0, 3),)), (2, (1, 0), 8, ((5, 5),)), (2, (3, 0), 8, ((1, 2),)))

    def test_no_points(self):
        self.assertEqual(written((), 0, (1, 0), 7, ()), ())
        self.assertEqual(written(self.LOG, 2, (1, 0), 8, ()), self.LOG)

    def test_a_place_that_it_has(self):
        for at, (row, ballot, word, lot) in enumerate(self.LOG):
            told = self.LOG[:at] + ((row, ballot, word, lot + ((9, 9),)),) + self.LOG[at + 1:]
            self.assertEqual(written(self.LOG, row, ballot, word, ((9, 9),)), told)
            self.assertEqual(written(self.LOG, row, ballot, word, lot), self.LOG)

    def test_a_place_that_it_lacks(self):
        self.assertEqual(written((), 4, (1, 0), 7, ((0, 3),)), ((4, (1, 0), 7, ((0, 3),)),))
        for row, ballot, at in ((0, (1, 5), 0), (0, (2, 0), 0), (0, (3, 0), 1), (1, (1, 0), 1), (2, (1, 1), 2),
                                (2, (3, 1), 3), (3, (1, 0), 3)):
            told = self.LOG[:at] + ((row, ballot, 7, ((9, 9),)),) + self.LOG[at:]
            self.assertEqual(written(self.LOG, row, ballot, 7, ((9, 9),)), told)
            self.assertEqual(told, tuple(sorted(told)))
