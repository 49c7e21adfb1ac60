import random

from ridingvotes.errors import NoText
from ridingvotes.reading import read_world
from ridingvotes.showing import show_world
from ridingvotes.worlds import World
from tests.misspelling import numbers_otherwise, rows_otherwise, signs_otherwise, strange_signs
from tests.plain_reader import Reader
from tests.things import DEEPEST, LONG, ODD
from tests.walks import SHARES, Walk, outcome
from tests.world_case import ASKED, CHOSEN, WorldCase, all_told, comes, led

FIRST = """world 5 2
hand 0 up
holds 0-2:-
heard - -
asks 0 -
knows -
more -
sent 0 0
taken 0 0
gathered none
learns 0 0
late -
hand 1 up
holds 3-4:-
heard - -
asks 0 -
knows -
more -
sent 0 0
taken 0 0
gathered none
learns 0 0
late -"""

# Hand 0 knows row 0 and, beyond a gap, row 2; it offered row 3, too. Its parcels to hand 1 and 2 are under way, one was
# taken without a receipt. Hand 1 is down. Hand 2 heard a greater ballot since, and was late with its own.
FULL = """world 9 3
hand 0 up
holds 0-0:1.0/2=1.0=8/3=1.0=9
heard 1.0 2=8,3=9
asks 1 3=9
knows 7
more 2=8
out 1 1 1-1:1.0/2=1.0=8 1 -
out 2 0 2-2:1.0/2=1.0=8 0 7
sent 0 2 1
taken 0 0 0
log 0 1.0 7 0-2
log 2 1.0 8 0-2
log 3 1.0 9 0
gathered 0-8:1.0
counts 3 0
learns 1 1 0
late 3.2
hand 1 down
holds 3-5:1.0/2=1.0=8
heard 1.0 2=8
asks 0 -
knows 7
more -
out 0 0 - 1 -
sent 1 0 0
taken 1 0 0
log 0 1.0 7 3-5
log 2 1.0 8 3-5
hand 2 up
holds 6-8:3.2
heard 3.2 -
asks 2 -
knows -
more -
sent 0 0 0
taken 0 0 0
gathered -
counts 0 -
learns 0 0 0
late 3.2
letter ask 2 0 3.2 0
letter parcel 0 2 0 2-2:1.0/2=1.0=8 0 7
letter late 2 0 1.0 3.2
letter known 0 1 0 7
letter told 1 0 1.0 - 1 -"""


def changed(text, at, row):
    """The text with another row there."""
    rows = text.split("\n")
    rows[at] = row
    return "\n".join(rows)


def place(text, row, skip=0):
    """The number of the row, behind so many alike."""
    return [at for at, found in enumerate(text.split("\n")) if found == row][skip]


class WorldTextCase(WorldCase):
    def not_read(self, row, thing):
        self.refused(None, NoText, row, read_world, thing)

    def as_the_patterns(self, texts):
        """Each text is read as what is shown by it, or refused with the row that the patterns tell."""
        read = 0
        for text in texts:
            row = Reader(text).wrong()
            told = outcome(lambda: show_world(read_world(text)))
            self.assertEqual(told, ("told", text) if row is None else ("NoText", {"row": row}), text)
            read += row is None
        return read


class Shown(WorldTextCase):
    def test_at_first(self):
        self.is_told(show_world(World((3, 2))), FIRST)
        self.assertTrue(read_world(FIRST) == World((3, 2)))

    def test_full(self):
        self.assertIsNone(Reader(FULL).wrong())
        self.is_told(show_world(read_world(FULL)), FULL)

    def test_each_part_of_the_full_one(self):
        world = read_world(FULL)
        self.is_told((world.points(), world.hands()), (9, 3))
        taken = ((2, (1, 0), 8), (3, (1, 0), 9))
        ridden = ((1, 0), taken[:1])
        self.is_told(world.hand(0).book(), (
            0, ((0, 0, ((1, 0), taken)),), (1, 0), ((2, 8), (3, 9)), 1, ((3, 9),), (7,), ((2, 8),),
            ((1, 1, ((1, 1, ridden),), 1, ()), (2, 0, ((2, 2, ridden),), 0, (7,))), (0, 2, 1), (0, 0, 0),
            ((0, (1, 0), 7, ((0, 2),)), (2, (1, 0), 8, ((0, 2),)), (3, (1, 0), 9, ((0, 0),)))))
        self.is_told(world.hand(0).mind(), (((0, 8, ((1, 0), ())),), ((3, ((0, 0),)),), (1, 1, 0), (3, 2)))
        self.is_told(world.hand(1).book(), (
            1, ((3, 5, ridden),), (1, 0), ((2, 8),), 0, (), (7,), (), ((0, 0, (), 1, ()),), (1, 0, 0), (1, 0, 0),
            ((0, (1, 0), 7, ((3, 5),)), (2, (1, 0), 8, ((3, 5),)))))
        self.assertIsNone(world.hand(1).mind())
        self.is_told(world.hand(2).mind(), ((), ((0, ()),), (0, 0, 0), (3, 2)))
        self.is_told(world.road(), (
            ("ask", 2, 0, (3, 2), 0), ("parcel", 0, 2, 0, ((2, 2, ridden),), 0, (7,)), ("late", 2, 0, (1, 0), (3, 2)),
            ("known", 0, 1, 0, (7,)), ("told", 1, 0, (1, 0), (), 1, ())))

    def test_led_by_deeds(self):
        for deeds in ((), ASKED, CHOSEN, ASKED + (("offer", 0, 1, 7), ("give", 1, 0, ((4, 4),)), ("fall", 2)),
                      ASKED + (("offer", 0, 0, 7), *comes(2), ("fall", 0), ("rise", 0))):
            for many in range(len(deeds) + 1):
                world = led((3, 3, 3), *deeds[:many])
                text = show_world(world)
                self.assertIsNone(Reader(text).wrong())
                other = read_world(text)
                self.assertTrue(other == world)
                self.assertEqual(repr(all_told(other)), repr(all_told(world)))
                self.is_told(show_world(other), text)

    def test_one_hand_and_eight(self):
        for shares in ((1,), (LONG,), (LONG,) * 8, (0, 0, 0, 0, 0, 0, 0, 1), (999999999999,)):
            world = led(shares, ("ask", len(shares) - 1, 999999999999))
            self.assertTrue(read_world(show_world(world)) == world)

    def test_nothing_is_changed(self):
        world = led((3, 3, 3), *CHOSEN)
        before = repr(all_told(world))
        self.is_told(show_world(world), show_world(world))
        self.assertEqual(repr(all_told(world)), before)

    def test_it_goes_on_as_the_world_whose_text_it_is(self):
        for seed in range(30):
            walk = Walk(seed)
            for _ in range(60 + seed):
                walk.step()
            other = read_world(show_world(walk.world))
            for _ in range(60):
                deed, told = walk.step()
                self.is_told(outcome(lambda: other.do(deed)), told)
                self.assertTrue(other == walk.world)
            self.assertEqual(repr(all_told(other)), repr(all_told(walk.world)))

    def test_a_hand_of_it_rises_with_what_it_knows(self):
        world = read_world(FULL)
        world.do(("rise", 1))
        self.is_told(world.hand(1).mind(), (None, (), (0, 1, 0), (0, 0)))


class Refused(WorldTextCase):
    def test_no_texts(self):
        for thing in ODD + DEEPEST + [(), (FIRST,), [FIRST], FIRST.encode(), FIRST.split("\n")]:
            self.not_read(0, thing)

    def test_the_first_row(self):
        for row in ("", " ", "world", "world 5", "world 5 2 ", "world 5 2 0", "world 05 2", "world 5 02", "world 0 2",
                    "world 5 0", "world 5 9", "world -5 2", "world - 2", "world 5 -", "World 5 2", "worlds 5 2",
                    " world 5 2",
                    "world  5 2", "world 1000000000000 2", "world 5 2000000000000", "world " + "1" * 5000 + " 2",
                    "hand 0 up",
                    "world 5 \u0662", "world 5,2", "world 5 2\r"):
            self.not_read(0, changed(FIRST, 0, row))
            self.not_read(0, row)
        self.not_read(0, "\n" + FIRST)

    def test_hands_and_their_names(self):
        for row in ("hand 1 up", "hand 2 up", "hand 00 up", "hand - up", "hand 0 Up", "hand 0", "hand 0 up up",
                    "hand 0 -",
                    "hand up 0", "hands 0 up", "hand  0 up", "holds 0-2:-"):
            self.not_read(1, changed(FIRST, 1, row))
        for row in ("hand 0 up", "hand 2 up", "hand 01 up", "hand 1 none", "letter ask 0 1 2.0 3"):
            self.not_read(12, changed(FIRST, 12, row))

    def test_so_many_hands(self):
        self.not_read(23, changed(FIRST, 0, "world 5 3").replace(" 0 0", " 0 0 0"))
        self.not_read(12, changed(FIRST, 0, "world 5 1").replace(" 0 0", " 0").replace("heard 0", "heard -"))
        self.not_read(7, changed(FIRST, 0, "world 5 3"))
        self.not_read(7, changed(FIRST, 0, "world 5 1"))

    def test_up_and_down(self):
        """What a fall takes stands there just where the hand is up."""
        down = changed(FIRST, 1, "hand 0 down")
        self.not_read(9, down)
        rows = down.split("\n")
        self.assertIsNone(read_world("\n".join(rows[:9] + rows[12:])).hand(0).mind())
        self.not_read(9, "\n".join(FIRST.split("\n")[:9] + rows[12:]))

    def test_rows_of_the_hand(self):
        for at, rows in (
                (2,
                 ("holds", "holds 0-2", "holds 0:-", "holds 0-2:- -", "holds 0-2:-;3-4:-", "holds -0-2:-",
                  "hold 0-2:-")),
                (3, ("heard -", "heard - - -", "heard - 0=7", "heard 0.0 -", "heard 1 -", "heard 1.0", "heard 1.0 0=",
                     "heard 1.0 0=7,0=8", "heard 1.0 1=7,0=8", "heard 1.0 0=7,", "heard 1.0 0-7", "heard 1.0 7")),
                (4,
                 ("asks 0", "asks -", "asks - -", "asks 1.0 -", "asks 00 -", "asks 0 0", "asks 0 1=7,1=8",
                  "asks 0 2=7,1=8")),
                (5, ("knows", "knows 7 8", "knows 7,", "knows ,7", "knows 07", "knows 0=7", "knows none", "knows 7-8")),
                (6,
                 ("more", "more 7", "more 2=8,1=8", "more 1=8,1=8", "more 1=8 2=8", "more 1=8,", "knows -",
                  "sent 0 0")),
                (7,
                 ("sent", "sent 0", "sent 0 0 0", "sent 0 -", "sent -", "sent 0 00", "sent 0,0", "sent  0 0",
                  "taken 0 0")),
                (8, ("taken", "taken 0", "taken 0 0 0", "taken - 0", "sent 0 0", "gathered none", "log 0 1.0 7 0")),
                (9, ("gathered", "gathered None", "gathered none none", "gathered 0", "gathered 0-2", "learns 0 0",
                     "gathered 4-3:-", "counts 0 -")),
                (10, ("learns", "learns 0", "learns 0 0 0", "learns 0 -", "late -", "gathered none")),
                (11, ("late", "late 0", "late 0.0", "late 1", "late - -", "late 1.0 1.0", "hand 1 up", "learns 0 0"))):
            for row in rows:
                self.not_read(at, changed(FIRST, at, row))

    def test_parcels_of_an_outbox(self):
        at = place(FULL, "out 1 1 1-1:1.0/2=1.0=8 1 -")
        held = "1-1:1.0/2=1.0=8"
        for row in (f"out 0 1 {held} 1 -", f"out 3 1 {held} 1 -", f"out - 1 {held} 1 -", f"out 1 - {held} 1 -",
                    f"out 1 1 {held} - -", f"out 1 1 {held} 1", f"out 1 1 {held} 1 - -", "out 1 1 1 1 -",
                    "out 1 1 1-1 1 -",
                    f"out 1 01 {held} 1 -", f"Out 1 1 {held} 1 -", "out", f"out 1 1 {held} 1 7,"):
            self.not_read(at, changed(FULL, at, row))
        # Numbers of parcels to one hand rise one by one, whatever stands between.
        for number, wrong in ((0, 3), (1, 3), (2, None), (3, 3), (5, 3)):
            rows = FULL.split("\n")
            rows[at + 1:at + 2] = ["out 2 4 - 0 -", "out 2 5 - 0 -", f"out 1 {number} - 0 -"]
            text = "\n".join(rows).replace("holds 0-0:1.0/2=1.0=8/3=1.0=9", "holds 0-0:1.0/2=1.0=8/3=1.0=9;2-2:1.0")
            if wrong is None:
                self.is_told(show_world(read_world(text)), text)
            else:
                self.not_read(at + wrong, text)

    def test_rows_of_the_log_rise(self):
        at = place(FULL, "log 2 1.0 8 0-2")
        for row in ("log 0 1.0 8 0-2", "log 0 0.1 8 0-2", "log 2 - 8 0-2", "log 2 1.0 - 0-2", "log - 1.0 8 0-2",
                    "log 2 1.0 8",
                    "log 2 1.0 8 0-2 -", "log 2 1.0 8 0-0", "log 2 1.0 8,9 0-2", "logs 2 1.0 8 0-2", "log 2 1 8 0-2"):
            self.not_read(at, changed(FULL, at, row))
        self.not_read(at + 1, changed(FULL, at, "log 3 1.0 8 0-2"))
        self.not_read(at + 1, changed(FULL, at, "log 3 1.1 8 0-2"))
        self.not_read(at + 1, changed(FULL, at, "log 4 1.0 8 0-2"))
        for row in ("log 0 1.1 8 0-2", "log 0 2.0 8 0-2", "log 2 1.0 8 -", "log 3 0.9 8 0-2",
                    "log 2 999999999999.7 0 0,2"):
            if row == "log 3 0.9 8 0-2":
                self.not_read(at, changed(FULL, at, row))
            else:
                self.is_told(show_world(read_world(changed(FULL, at, row))), changed(FULL, at, row))

    def test_counts_rise(self):
        at = place(FULL, "counts 3 0")
        rows = FULL.split("\n")
        for row, wrong in (("counts 3 1", at + 1), ("counts 2 0", at + 1), ("counts 4 1", None), ("counts 4", at + 1),
                           ("counts 4 0-0", at + 1), ("counts - 1", at + 1), ("count 4 1", at + 1)):
            text = "\n".join(rows[:at + 1] + [row] + rows[at + 1:])
            if wrong is None:
                self.is_told(show_world(read_world(text)), text)
            else:
                self.not_read(wrong, text)
        for numbers in ((3, 5, 4), (3, 5, 5), (3, 5, 3), (4, 3, 5), (3, 4, 9)):
            text = "\n".join(rows[:at] + [f"counts {number} 0" for number in numbers] + rows[at + 1:])
            if numbers == (3, 4, 9):
                self.is_told(show_world(read_world(text)), text)
            else:
                self.not_read(at + (1 if numbers[1] == 3 else 2), text)

    def test_letters(self):
        rows = FIRST.split("\n")
        for row in ("letter", "letter ", "letter  ask 0 1 2.0 3", "letter ask 0 0 2.0 3", "letter ask 0 2 2.0 3",
                    "letter ask 2 0 2.0 3", "letter ask 0 1 2.0", "letter ask 0 1 - 3", "Letter ask 0 1 2.0 3",
                    "ask 0 1 2.0 3", "letters ask 0 1 2.0 3", "letter ask 0 1 2.0 3 ", "letter letter ask 0 1 2.0 3",
                    "letter none 0 1", "hand 2 up", "late -", "", " ", "-", "letter -"):
            self.not_read(23, "\n".join(rows + [row]))
            self.not_read(24, "\n".join(rows + ["letter ask 0 1 2.0 3", row, "letter ask 0 1 2.0 3", "letter"]))
        # Numbers that no hand has may stand elsewhere in a letter.
        text = "\n".join(rows + ["letter ask 0 1 2.7 3", "letter late 1 0 2.9 3.8"])
        self.is_told(read_world(text).road(), (("ask", 0, 1, (2, 7), 3), ("late", 1, 0, (2, 9), (3, 8))))

    def test_texts_that_end_too_early(self):
        for text in (FIRST, FULL):
            rows = text.split("\n")
            ends = place(text, [row for row in rows if not row.startswith("letter")][-1], -1) + 1
            for many in range(1, ends):
                self.not_read(many, "\n".join(rows[:many]))
                self.not_read(many, "\n".join(rows[:many]) + "\n")
                self.not_read(many, "\n".join(rows[:many]) + "\n\n")
            for many in range(ends, len(rows) + 1):
                self.is_told(show_world(read_world("\n".join(rows[:many]))), "\n".join(rows[:many]))
                self.not_read(many, "\n".join(rows[:many]) + "\n")

    def test_points_nowhere_or_twice(self):
        for at, row in ((2, "holds 0-1:-"), (2, "holds 1-2:-"), (2, "holds -"), (2, "holds 0-0:-;2-2:-"),
                        (2, "holds 0-3:-"), (13, "holds 2-4:-"), (13, "holds 0-4:-"), (13, "holds 0-2:-"),
                        (13, "holds 4-4:-"), (13, "holds -"), (0, "world 4 2"), (0, "world 6 2"), (0, "world 1 2")):
            self.not_read(23, changed(FIRST, at, row))
        self.not_read(25, changed(FIRST, 2, "holds 0-1:-") + "\nletter ask 0 1 2.0 3" * 2)

    def test_points_in_parcels(self):
        rows = changed(FIRST, 2, "holds 0-0:-").split("\n")

        def with_parcels(*parcels, taken="taken 0 0"):
            text = "\n".join(rows[:7] + list(parcels) + rows[7:])
            return changed(text, len(parcels) + 19, taken)

        text = with_parcels("out 1 0 1-2:- 0 -")
        self.is_told(show_world(read_world(text)), text)
        text = with_parcels("out 1 0 2-2:- 0 -", "out 1 1 1-1:- 0 -")
        self.is_told(show_world(read_world(text)), text)
        # That which was taken is with the taker now, or nowhere.
        self.not_read(24, with_parcels("out 1 0 1-2:- 0 -", taken="taken 1 0"))
        self.not_read(25, with_parcels("out 1 0 2-2:- 0 -", "out 1 1 1-1:- 0 -", taken="taken 1 0"))
        text = with_parcels("out 1 0 0-4:- 0 -", "out 1 1 1-2:- 0 -", taken="taken 1 0")
        self.is_told(show_world(read_world(text)), text)
        text = with_parcels("out 1 5 1-2:- 0 -", taken="taken 5 0")
        self.is_told(show_world(read_world(text)), text)
        self.not_read(24, with_parcels("out 1 5 1-2:- 0 -", taken="taken 6 0"))
        # Twice: with hands and in parcels, in two of them.
        self.not_read(24, with_parcels("out 1 0 0-2:- 0 -"))
        self.not_read(24, with_parcels("out 1 0 1-3:- 0 -"))
        self.not_read(25, with_parcels("out 1 0 1-2:- 0 -", "out 1 1 1-1:- 0 -"))
        self.not_read(25, with_parcels("out 1 0 1-2:- 0 -", "out 1 1 1-2:- 0 -"))

    def test_points_go_behind_all_rows(self):
        self.not_read(22, changed(changed(FIRST, 2, "holds 0-1:-"), 22, "late"))
        self.not_read(4, changed(changed(FIRST, 2, "holds 0-1:-"), 4, "asks"))

    def test_the_first_row_that_is_wrong(self):
        self.not_read(5, changed(changed(FIRST, 5, "knows"), 3, "heard - -").replace("late -", "late"))
        self.not_read(3, changed(changed(FIRST, 5, "knows"), 3, "heard -"))


class Misspelt(WorldTextCase):
    def texts(self):
        found = [FIRST, FULL]
        for seed in (11, 22, 33, 44):
            walk = Walk(seed, SHARES[seed % 4])
            for _ in range(120):
                walk.step()
            found.append(show_world(walk.world))
        return found

    def test_rows(self):
        for text in self.texts():
            self.as_the_patterns([text])
            self.as_the_patterns(rows_otherwise(text))

    def test_signs(self):
        dice, read = random.Random(5), 0
        for text in self.texts():
            read += self.as_the_patterns(signs_otherwise(text, dice, 1200))
        self.assertGreater(read, 100)

    def test_signs_that_look_alike(self):
        texts = strange_signs(FIRST)
        self.as_the_patterns(texts[::7] + texts[-40:])

    def test_numbers(self):
        read = 0
        for text in (FIRST, FULL):
            texts = numbers_otherwise(text)
            read += self.as_the_patterns(texts)
        self.assertGreater(read, 100)
