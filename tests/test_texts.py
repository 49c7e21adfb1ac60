import random

from ridingvotes.errors import NoText
from ridingvotes.reading import read_holding, read_letter, read_lot
from ridingvotes.showing import show_holding, show_letter, show_lot
from tests import plain_reader
from tests.misspelling import numbers_otherwise, signs_otherwise, strange_signs
from tests.things import DEEPEST, FAR, LONG, ODD, all_holdings, all_lots, nested
from tests.world_case import WorldCase, run

LOTS = (
    ((), "-"), (((0, 0),), "0"), (((7, 7),), "7"), (((0, 4),), "0-4"), (((0, 1),), "0-1"), (((0, 4), (9, 9)), "0-4,9"),
    (((3, 3), (5, 5), (7, 8)), "3,5,7-8"), (((FAR, FAR),), "999999999999"),
    (((0, LONG), (LONG + 2, FAR)), "0-100000000000,100000000002-999999999999"),
)
HOLDINGS = (
    ((), "-"), ((run(0, 4),), "0-4:-"), ((run(4, 4),), "4-4:-"), ((run(0, 4, (2, 0)),), "0-4:2.0"),
    ((run(0, 4, (2, 1), (0, (2, 1), 7)),), "0-4:2.1/0=2.1=7"),
    ((run(0, 4, (2, 1), (0, (1, 3), 7), (12, (2, 0), 0)),), "0-4:2.1/0=1.3=7/12=2.0=0"),
    ((run(0, 4), run(5, 9, (1, 0)), run(10, 10)), "0-4:-;5-9:1.0;10-10:-"), ((run(0, 4), run(6, 9)), "0-4:-;6-9:-"),
    ((run(0, FAR, (FAR, FAR), (FAR, (FAR, 0), FAR)),),
     "0-999999999999:999999999999.999999999999/999999999999=999999999999.0=999999999999"),
)
HELD = (run(0, 4, (2, 0)),)
LETTERS = (
    (("ask", 0, 1, (2, 0), 3), "ask 0 1 2.0 3"),
    (("told", 0, 1, (2, 0), HELD, 0, (7, 9)), "told 0 1 2.0 0-4:2.0 0 7,9"),
    (("offer", 0, 1, (2, 0), 3, 77), "offer 0 1 2.0 3 77"),
    (("took", 0, 1, (2, 0), 3, ((0, 4), (9, 9))), "took 0 1 2.0 3 0-4,9"),
    (("late", 0, 1, (2, 0), (3, 1)), "late 0 1 2.0 3.1"), (("known", 0, 1, 0, (7, 9)), "known 0 1 0 7,9"),
    (("parcel", 0, 1, 0, HELD, 0, (7, 9)), "parcel 0 1 0 0-4:2.0 0 7,9"), (("receipt", 0, 1, 1, 2), "receipt 0 1 1 2"),
    # Each place where nothing may be.
    (("told", 7, 0, (1, 0), (), 0, ()), "told 7 0 1.0 - 0 -"),
    (("told", 1, 0, (1, 0), HELD, 3, ()), "told 1 0 1.0 0-4:2.0 3 -"),
    (("took", 1, 0, (1, 0), 0, ()), "took 1 0 1.0 0 -"), (("known", 1, 0, 4, ()), "known 1 0 4 -"),
    (("parcel", 1, 0, 2, (run(3, 3),), 0, ()), "parcel 1 0 2 3-3:- 0 -"),
    (("parcel", 1, 0, 2, (), 0, (0,)), "parcel 1 0 2 - 0 0"),
    (("ask", FAR, 1, (FAR, FAR), FAR), "ask 999999999999 1 999999999999.999999999999 999999999999"),
)


class TextCase(WorldCase):
    def both_ways(self, show, read, thing, text):
        self.is_told(show(thing), text)
        self.is_told(read(text), thing)

    def not_read(self, read, thing):
        self.refused(None, NoText, 0, read, thing)

    def as_the_patterns(self, show, read, is_so, texts):
        """Each text is read as what is shown by it, or refused, as the patterns tell; how many are read."""
        many = 0
        for text in texts:
            if is_so(text):
                self.assertEqual(show(read(text)), text)
                many += 1
            else:
                with self.assertRaises(NoText, msg=text) as caught:
                    read(text)
                self.is_told(caught.exception.row, 0)
        return many

    def misspelt(self, show, read, is_so, pairs):
        dice = random.Random(3)
        read_too = 0
        for _, text in pairs:
            for texts in (signs_otherwise(text, dice, 1500), strange_signs(text), numbers_otherwise(text)):
                read_too += self.as_the_patterns(show, read, is_so, texts)
        # Some misspelt texts are texts of other things.
        self.assertGreater(read_too, 20)

    def no_texts(self, read, thing):
        for other in ODD + DEEPEST + [(), thing, [thing], b"0", b"-", nested(30, "-", lambda part: (part,))]:
            # Just this one is a text of a lot.
            if other != "0":
                self.not_read(read, other)
        for text in ("", " ", "\n", "  ", "x", "none", "--", "- ", " -", "-\n", "\n-", "-\n-", "0\n", "\n0", " 0",
                     "0 "):
            self.not_read(read, text)


class Lots(TextCase):
    def test_by_hand(self):
        for lot, text in LOTS:
            self.both_ways(show_lot, read_lot, lot, text)

    def test_all_of_few_points(self):
        texts = set()
        for lot, _ in all_lots(8):
            text = show_lot(lot)
            self.assertTrue(plain_reader.is_lot(text))
            self.is_told(read_lot(text), lot)
            texts.add(text)
        self.assertEqual(len(texts), 256)

    def test_not_so_written(self):
        for text in ("5-5", "0-0", "4-3", "0-4,5", "0-4,5-9", "0,1", "4,4", "4,3", "0-4,3", "0-4,9,8", "9,0-4",
                     "0-4,2-9",
                     "0-4,", ",0-4", "0-4,,9", "0--4", "0-4-9", "-4", "0-", "-0", "-,0", "0,-", "0-4;9", "0-4 9",
                     "0-4, 9", "0 -4", "01", "00", "0-04", "1000000000000", "0-1000000000000", "+1", "1.0", "0x1",
                     "1_0"):
            self.not_read(read_lot, text)
        self.not_read(read_lot, "1" * 5000)
        self.not_read(read_lot, "0-" + "1" * 5000)
        self.not_read(read_lot, "0" * 5000)

    def test_misspelt(self):
        self.misspelt(show_lot, read_lot, plain_reader.is_lot, LOTS)

    def test_no_texts(self):
        self.no_texts(read_lot, ((0, 4),))
        self.not_read(read_lot, "0-4:-")

    def test_two_hundred_runs(self):
        lot = tuple((3 * at, 3 * at + at % 2) for at in range(200))
        self.is_told(read_lot(show_lot(lot)), lot)


class Holdings(TextCase):
    def test_by_hand(self):
        for holding, text in HOLDINGS:
            self.both_ways(show_holding, read_holding, holding, text)

    def test_all_of_few_points(self):
        slips = (((0, 0), ()), ((2, 0), ()), ((2, 0), ((0, (1, 1), 3),)), ((2, 0), ((1, (1, 1), 3), (4, (2, 0), 0))))
        texts = set()
        for holding, _ in all_holdings(4, slips):
            text = show_holding(holding)
            self.assertTrue(plain_reader.is_holding(text))
            self.is_told(read_holding(text), holding)
            texts.add(text)
        self.assertEqual(len(texts), 5 ** 4)

    def test_not_so_written(self):
        for text in ("0:-", "4:2.0", "4-3:-", "0-4", "0-4:", ":-", "0-4:-;", ";0-4:-", "0-4:-;;6-9:-", "0-4:-;5-9:-",
                     "0-4:2.0;5-9:2.0", "0-4:-;4-9:2.0", "0-4:-;3-9:2.0", "5-9:-;0-3:-", "0-4:-,6-9:-", "0-4:0.0",
                     "0-4:0.1", "0-4:1", "0-4:1.", "0-4:.1", "0-4:1.0.0", "0-4:1.0/", "0-4:1.0/0=1.0", "0-4:1.0/0=1.0=",
                     "0-4:1.0/0=-=7", "0-4:-/0=1.0=7", "0-4:1.0/0=1.1=7", "0-4:1.0/0=2.0=7", "0-4:2.0/0=1.0=7/0=2.0=7",
                     "0-4:2.0/1=1.0=7/0=1.0=7", "0-4:2.0/0=1.0=7=7", "0-4:2.0/0=01.0=7", "0-4:2.0//0=1.0=7", "-;0-4:-",
                     "0-4:-;-", "0-4: -", "0-4:2.00", "0-4:02.0", "0-4:1000000000000.0", "0-4:1.1000000000000"):
            self.not_read(read_holding, text)
        self.not_read(read_holding, "0-4:" + "1" * 5000 + ".0")

    def test_misspelt(self):
        self.misspelt(show_holding, read_holding, plain_reader.is_holding, HOLDINGS)

    def test_no_texts(self):
        self.no_texts(read_holding, HELD)

    def test_two_hundred_runs(self):
        holding = tuple(run(3 * at, 3 * at + at % 2, (at + 1, 0), (at, (at + 1, 0), at)) for at in range(200))
        self.is_told(read_holding(show_holding(holding)), holding)


class Letters(TextCase):
    def test_by_hand(self):
        for letter, text in LETTERS:
            self.both_ways(show_letter, read_letter, letter, text)

    def test_not_so_written(self):
        for text in ("ask 0 1 2.0", "ask 0 1 2.0 3 4", "ask 0 0 2.0 3", "ask 7 7 2.0 3", "ask 0 1 - 3", "ask 0 1 0.0 3",
                     "ask 0 1 2.0 -", "ask - 1 2.0 3", "ask", "ask 0", "ask 0 1", "Ask 0 1 2.0 3", "ask  0 1 2.0 3",
                     "ask 0 1 2.0 3 ", " ask 0 1 2.0 3", "ask\t0 1 2.0 3", "asks 0 1 2.0 3", "letter ask 0 1 2.0 3",
                     "told 0 1 2.0 0-4:2.0 0", "told 0 1 - 0-4:2.0 0 7", "told 0 1 2.0 0-4 0 7",
                     "told 0 1 2.0 0-4:2.0 - 7",
                     "told 0 1 2.0 0-4:2.0 0 7,", "offer 0 1 2.0 - 7", "offer 0 1 2.0 3 -", "offer 0 1 2.0 3 7,8",
                     "took 0 1 2.0 3 4-4", "took 0 1 2.0 3 0-4:-", "took 0 1 2.0 - 4", "late 0 1 2.0 -",
                     "late 0 1 - 2.0",
                     "late 0 1 2.0 3", "known 0 1 - 7", "known 0 1 0", "known 0 1 0 7,,9", "known 0 1 0 07",
                     "parcel 0 1 - 0-4:2.0 0 7", "parcel 0 1 0 0-4:2.0 - 7", "parcel 0 1 0 0-4 0 7", "receipt 0 1 - 2",
                     "receipt 0 1 1 -", "receipt 0 1 1.0 2", "give 0 1 0-4", "none 0 1", "0 0 1 2.0 3",
                     "ask 0 1 2.0 3\n",
                     "\nask 0 1 2.0 3", "ask 0 1 2.0 3\nask 0 1 2.0 3"):
            self.not_read(read_letter, text)

    def test_misspelt(self):
        self.misspelt(show_letter, read_letter, plain_reader.is_letter, LETTERS)

    def test_words_and_parts_exchanged(self):
        words = [text.split(" ") for _, text in LETTERS]
        for one in words:
            for other in words:
                self.as_the_patterns(show_letter, read_letter, plain_reader.is_letter,
                                     [" ".join(one[:at] + other[at:]) for at in range(len(one) + 1)])

    def test_no_texts(self):
        self.no_texts(read_letter, ("ask", 0, 1, (2, 0), 3))
