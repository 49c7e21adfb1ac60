import copy
import unittest

from ridingvotes.letters import is_letter
from ridingvotes.slips import FRESH, NONE
from tests.things import DEEP, DEEPEST, FAR, LONG, ODD

SLIP = ((2, 1), ((0, (1, 0), 7),))
HOLDING = ((0, 4, FRESH), (5, 9, SLIP))
LOT = ((0, 3), (5, LONG))
# One of each of the eight kinds, and of what kind its parts are.
LETTERS = {
    "ask": (("ask", 0, 1, (2, 0), 3), ("word", "hand", "hand", "ballot", "number")),
    "told": (("told", 0, 1, (2, 1), HOLDING, 1, (7, 9, 8)),
             ("word", "hand", "hand", "ballot", "holding", "number", "words")),
    "offer": (("offer", 0, 1, (2, 0), 3, 77), ("word", "hand", "hand", "ballot", "number", "number")),
    "took": (("took", 0, 1, (2, 1), 3, LOT), ("word", "hand", "hand", "ballot", "number", "lot")),
    "late": (("late", 0, 1, (2, 1), (3, 2)), ("word", "hand", "hand", "ballot", "ballot")),
    "known": (("known", 0, 1, 4, (7, 9, 8)), ("word", "hand", "hand", "number", "words")),
    "parcel": (("parcel", 0, 1, 5, HOLDING, 1, (7, 9, 8)),
               ("word", "hand", "hand", "number", "holding", "number", "words")),
    "receipt": (("receipt", 0, 1, 5, 2), ("word", "hand", "hand", "number", "number")),
}
# What may stand in the place of a part, and what may not, beside what may stand nowhere.
RIGHT = {
    "hand": (7, FAR), "number": (0, 1, FAR), "ballot": ((1, 0), (1, 7), (FAR, FAR)),
    "words": ((), (0,), (3, 3), (FAR, 0, 9)), "lot": ((), ((0, 0),), ((4, FAR),)),
    "holding": ((), ((0, 0, FRESH),), ((3, FAR, SLIP),)), "word": (),
}
WRONG = {
    "hand": ((), (0,), ((0, 0),), HOLDING, LOT, (2, 1)),
    "number": ((), (0,), ((0, 0),), HOLDING, LOT, (2, 1)),
    "ballot": (0, 1, (), (0,), ((0, 0),), NONE, (0, 1), (-1, 0), (1, -1), (True, 0), (1, False), (1,), (1, 0, 0),
               [1, 0], (1, None), HOLDING, LOT),
    "words": (0, 1, (-1,), (0, -1), (True,), (0, None), ("a",), ((0,),), [0], [], ([0],), LOT, HOLDING, ((2, 1),)),
    "lot": (0, 1, (0,), (0, 0), ((0, 0), (1, 1)), ((1, 0),), [(0, 0)], ((0, True),), ((-1, 0),), HOLDING, (2, 1)),
    "holding": (0, 1, (0,), ((0, 0),), ((0, 0, ()),), ((0, 0, FRESH), (1, 1, FRESH)), ((1, 0, FRESH),), FRESH,
                ((0, 0, ((1, 0), ((0, (2, 0), 7),))),), [(0, 0, FRESH)], ((0, 0, [NONE, ()]),), LOT, (2, 1)),
    "word": ("", "asks", "Ask", "ask ", " ask", "tell", "letter", "parcels", "PARCEL", "give", "ballot", "number",
             0, 1, (), ("ask",), (0,)),
}
NOWHERE = (True, False, None, "", "a", "ask", "0", [], [0], [(0, 0)], {}, {0: 1}, -1, -FAR)


def with_part(letter, place, part):
    return letter[:place] + (part,) + letter[place + 1:]


class IsLetter(unittest.TestCase):
    def is_not(self, thing):
        before = copy.deepcopy(thing)
        self.assertIs(is_letter(thing), False, thing)
        self.assertEqual(thing, before)

    def test_each_kind(self):
        for letter, _ in LETTERS.values():
            with self.subTest(letter):
                self.assertIs(is_letter(letter), True)
                self.assertIs(is_letter(thing=letter), True)

    def test_other_parts_that_may_stand(self):
        for letter, kinds in LETTERS.values():
            for place, kind in enumerate(kinds):
                for part in RIGHT[kind]:
                    with self.subTest(letter, place=place, part=part):
                        self.assertIs(is_letter(with_part(letter, place, part)), True)

    def test_the_examples_of_the_texts(self):
        for letter in (("ask", 0, 1, (2, 0), 3), ("told", 0, 1, (2, 0), ((0, 4, ((2, 0), ())),), 0, (7, 9)),
                       ("offer", 0, 1, (2, 0), 3, 77), ("took", 0, 1, (2, 0), 3, ((0, 4), (9, 9))),
                       ("late", 0, 1, (2, 0), (3, 1)), ("known", 0, 1, 0, (7, 9)),
                       ("parcel", 0, 1, 0, ((0, 4, ((2, 0), ())),), 0, (7, 9)), ("receipt", 0, 1, 1, 2)):
            with self.subTest(letter):
                self.assertIs(is_letter(letter), True)

    def test_nothing_is_asked_of_one_part_by_another(self):
        for letter in (("ask", 3, 1, (2, 0), 0), ("late", 0, 1, (3, 2), (2, 1)), ("late", 0, 1, (2, 1), (2, 1)),
                       ("told", 4, 9, (1, 0), HOLDING, 0, ()), ("told", 0, 1, (2, 1), (), 0, ()),
                       ("took", 0, 1, (2, 1), 3, ()), ("parcel", 0, 1, 0, (), 0, ()), ("known", 0, 1, 0, ())):
            with self.subTest(letter):
                self.assertIs(is_letter(letter), True)

    def test_a_part_of_another_kind(self):
        for letter, kinds in LETTERS.values():
            for place, kind in enumerate(kinds):
                for part in WRONG[kind]:
                    self.is_not(with_part(letter, place, part))

    def test_a_part_that_may_stand_nowhere(self):
        for letter, kinds in LETTERS.values():
            for place, kind in enumerate(kinds):
                for part in NOWHERE:
                    if part != "ask" or kind != "word":
                        self.is_not(with_part(letter, place, part))

    def test_from_and_to_alike(self):
        for letter, _ in LETTERS.values():
            for name in (0, 1, FAR):
                self.is_not(with_part(with_part(letter, 1, name), 2, name))
            self.assertIs(is_letter(with_part(with_part(letter, 1, 1), 2, 0)), True)

    def test_a_part_more_or_fewer(self):
        for letter, _ in LETTERS.values():
            for many in range(len(letter)):
                self.is_not(letter[:many])
            for part in (0, (), (2, 1), HOLDING, LOT, None, (7, 9), 5):
                self.is_not(letter + (part,))
            for place in range(1, len(letter)):
                self.is_not(letter[:place] + letter[place + 1:])
                self.is_not(letter[:place] + (letter[place],) + letter[place:])

    def test_parts_exchanged(self):
        for letter, kinds in LETTERS.values():
            for place in range(len(letter)):
                for other in range(place):
                    if kinds[place] != kinds[other] and {kinds[place], kinds[other]} != {"hand", "number"}:
                        self.is_not(with_part(with_part(letter, place, letter[other]), other, letter[place]))

    def test_another_word_than_its_parts_have(self):
        for word, (letter, kinds) in LETTERS.items():
            for other, (_, others) in LETTERS.items():
                self.assertIs(is_letter(with_part(letter, 0, other)), kinds == others, (letter, other))
            self.is_not(with_part(letter, 0, word.upper()))
            self.is_not(with_part(letter, 0, word + "s"))
            self.is_not(with_part(letter, 0, word[:-1]))

    def test_other_things_than_tuples(self):
        for letter, _ in LETTERS.values():
            self.is_not(list(letter))
            self.is_not((letter,))
            self.is_not(dict(enumerate(letter)))
            self.is_not(str(letter))
            self.is_not({letter: letter})
        for word in LETTERS:
            self.is_not(word)
            self.is_not((word,))
            self.is_not((word, 0, 1))

    def test_lists_inside(self):
        self.is_not(("told", 0, 1, (2, 1), ([0, 4, FRESH],), 1, (7, 9)))
        self.is_not(("told", 0, 1, (2, 1), ((0, 4, ((0, 0), [])),), 1, (7, 9)))
        self.is_not(("took", 0, 1, (2, 1), 3, ([0, 3],)))
        self.is_not(("late", 0, 1, [2, 1], (3, 1)))
        self.is_not(("known", 0, 1, 4, [7, 9]))

    def test_of_anything(self):
        for thing in ODD + [()]:
            self.is_not(thing)
            self.is_not((thing,))
            self.is_not((thing, 0, 1, (2, 0), 3))
            self.is_not(("ask", thing))
            self.is_not(("ask", thing, thing, thing, thing))
            self.is_not(("ask", 0, 1, thing, 3))
            self.is_not(("told", 0, 1, (2, 1), thing, 0, ()) if thing != () else None)

    def test_thirty_deep(self):
        for thing in DEEPEST:
            self.is_not(thing)
        for letter, _ in LETTERS.values():
            for place in range(len(letter)):
                for thing in DEEP:
                    self.is_not(with_part(letter, place, thing))


if __name__ == "__main__":
    unittest.main()
