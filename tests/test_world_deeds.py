from ridingvotes.errors import (Fallen, FarRow, Known, NoDeed, NoHand, NoLetter, NoLot, NotHeld, NotMost, NoWord,
                                OldBallot, Standing)
from tests.things import DEEPEST, ODD
from tests.world_case import ASKED, CHOSEN, WorldCase, comes, led, run

ASKS = (("ask", 0, 1, (1, 0), 0), ("ask", 0, 2, (1, 0), 0))
NO_HANDS = [thing for thing in ODD + DEEPEST if thing not in (0, 1) or isinstance(thing, bool)] + [3, 8, -1]
NO_NUMBERS = [thing for thing in ODD + DEEPEST if isinstance(thing, bool) or not isinstance(thing, int) or thing < 0]


class HandDeeds(WorldCase):
    def test_ask(self):
        world = led((3, 3, 3))
        self.does(world, ("ask", 0, 1), None, ASKS)
        self.does(world, ("ask", 2, 4), None, (("ask", 2, 0, (4, 2), 0), ("ask", 2, 1, (4, 2), 0)))
        self.is_told(world.hand(2).book()[4], 4)

    def test_offer_tells_the_word_offered(self):
        world = led((3, 3, 3), *ASKED)
        self.does(world, ("offer", 0, 0, 7), 7, (("offer", 0, 1, (1, 0), 0, 7), ("offer", 0, 2, (1, 0), 0, 7)))
        self.does(world, ("offer", 0, 0, 8), 7, (("offer", 0, 1, (1, 0), 0, 7), ("offer", 0, 2, (1, 0), 0, 7)))
        self.does(world, ("offer", 0, 19, 0), 0, (("offer", 0, 1, (1, 0), 19, 0), ("offer", 0, 2, (1, 0), 19, 0)))

    def test_offer_with_what_comes_of_the_counting(self):
        world = led((3, 1), ("ask", 0, 1), ("lose", 0))
        self.does(world, ("offer", 0, 0, 7), 7, (("offer", 0, 1, (1, 0), 0, 7), ("known", 0, 1, 0, (7,))))

    def test_offer_of_another_word_than_handed_in(self):
        world = led((3, 3, 3), *ASKED, ("offer", 0, 0, 7), ("come", 0), ("lose", 0), ("lose", 0), ("ask", 1, 2),
                    ("come", 1), ("come", 1))
        self.does(world, ("offer", 1, 0, 5), 7, (("offer", 1, 0, (2, 1), 0, 7), ("offer", 1, 2, (2, 1), 0, 7)))

    def test_give(self):
        world = led((3, 3, 3))
        self.does(world, ("give", 1, 2, ((3, 3), (5, 5))), None,
                  (("parcel", 1, 2, 0, (run(3, 3), run(5, 5)), 0, ()),))
        self.is_told(world.hand(1).book()[1], (run(4, 4),))

    def test_again(self):
        world = led((3, 3, 3), ("ask", 0, 1), ("give", 0, 1, ((0, 0),)))
        self.does(world, ("again", 0), None, (("parcel", 0, 1, 0, (run(0, 0, (1, 0)),), 0, ()),) + ASKS)
        self.does(world, ("again", 1), None)

    def test_fall_and_rise(self):
        world = led((3, 3, 3))
        self.does(world, ("fall", 1), None)
        self.assertIsNone(world.hand(1).mind())
        self.assertIsNotNone(world.hand(0).mind())
        self.does(world, ("rise", 1), None)
        self.is_told(world.hand(1).mind(), (None, (), (0, 0, 0), (0, 0)))

    def test_letters_stand_behind_those_of_the_road(self):
        world = led((3, 3, 3), ("ask", 2, 1))
        self.does(world, ("ask", 0, 1), None, ASKS)
        self.is_told([letter[1] for letter in world.road()], [2, 2, 0, 0])


class RoadDeeds(WorldCase):
    def test_come(self):
        world = led((3, 3, 3), ("ask", 0, 1))
        self.does(world, ("come", 1), None, (("told", 2, 0, (1, 0), (run(6, 8, (1, 0)),), 0, ()),), gone=1)
        self.does(world, ("come", 0), None, (("told", 1, 0, (1, 0), (run(3, 5, (1, 0)),), 0, ()),), gone=0)
        self.does(world, ("come", 0), None, gone=0)
        self.does(world, ("come", 0), None, gone=0)
        self.is_told(world.hand(0).mind()[0], (run(0, 8, (1, 0)),))
        self.is_told(world.road(), ())

    def test_come_of_a_letter_to_a_hand_that_is_down(self):
        world = led((3, 3, 3), ("ask", 0, 1), ("fall", 1))
        hand = world.hand(1)
        self.does(world, ("come", 0), None, gone=0)
        self.assertTrue(world.hand(1) == hand)
        world.do(("rise", 1))
        self.is_told(world.hand(1).book()[2], (0, 0))

    def test_come_of_a_letter_of_a_hand_that_is_down(self):
        world = led((3, 3, 3), ("ask", 0, 1), ("fall", 0))
        self.does(world, ("come", 0), None, (("told", 1, 0, (1, 0), (run(3, 5, (1, 0)),), 0, ()),), gone=0)

    def test_lose(self):
        world = led((3, 3, 3), ("ask", 0, 1))
        hands = [world.hand(name) for name in range(3)]
        self.does(world, ("lose", 1), None, gone=1)
        self.does(world, ("lose", 0), None, gone=0)
        for name, hand in enumerate(hands):
            self.assertTrue(world.hand(name) == hand)

    def test_double(self):
        world = led((3, 3, 3), ("ask", 0, 1))
        hands = [world.hand(name) for name in range(3)]
        self.does(world, ("double", 0), None, (ASKS[0],))
        self.does(world, ("double", 1), None, (ASKS[1],))
        self.does(world, ("double", 3), None, (ASKS[1],))
        for name, hand in enumerate(hands):
            self.assertTrue(world.hand(name) == hand)
        told = (("told", 1, 0, (1, 0), (run(3, 5, (1, 0)),), 0, ()),)
        self.does(world, ("come", 2), None, told, gone=2)
        self.does(world, ("come", 0), None, told, gone=0)

    def test_numbers_at_both_ends(self):
        for word in ("come", "lose", "double"):
            for many in (1, 2, 4):
                for number in {0, many - 1}:
                    world = led((3, 3, 3), ("ask", 0, 1), ("ask", 1, 1))
                    while len(world) > many:
                        world.do(("lose", 0))
                    letter = world.road()[number]
                    road = list(world.road())
                    world.do((word, number))
                    if word == "double":
                        road.append(letter)
                    else:
                        del road[number]
                    self.is_told(world.road()[:len(road)], tuple(road))

    def test_no_letter(self):
        for word in ("come", "lose", "double"):
            world = led((3, 3, 3))
            for number in (0, 1, -1):
                self.refused(world, NoLetter, number, world.do, (word, number))
            world = led((3, 3, 3), ("ask", 0, 1))
            for number in [2, 3, -1, -2, 10 ** 12] + NO_NUMBERS:
                self.refused(world, NoLetter, number, world.do, (word, number))


class Refused(WorldCase):
    def test_no_deed(self):
        world = led((3, 3, 3), *ASKED, ("again", 0))
        for deed in ((), ("ask",), ("ask", 0), ("ask", 0, 1, 2), ("offer", 0, 0), ("offer", 0, 0, 7, 7),
                     ("give", 0, 1), ("give", 0, 1, ((0, 0),), 0), ("again",), ("again", 0, 0), ("fall",),
                     ("fall", 0, 0), ("rise",), ("rise", 0, 0), ("come",), ("come", 0, 0), ("lose",), ("lose", 0, 0),
                     ("double",), ("double", 0, 0), ("settle", (0,)), ("hear", 0, 0), ("none", 0), ("", 0),
                     ("Ask", 0, 2), ("ask ", 0, 2), (b"ask", 0, 2), (0, 0, 2), (None, 0), ((), 0), (["ask"], 0, 2),
                     ({}, 0), (("ask", 0, 2),), ["ask", 0, 2], ["come", 0], "ask", "come", None, {"ask": 0}):
            self.refused(world, NoDeed, deed, world.do, deed)

    def test_no_deed_of_any_kind(self):
        world = led((3, 3, 3), *ASKED)
        for deed in ODD + DEEPEST:
            self.refused(world, NoDeed, deed, world.do, deed)
            self.refused(world, NoDeed, (deed, 0), world.do, (deed, 0))
            self.refused(world, NoDeed, (deed, 0, 2), world.do, deed=(deed, 0, 2))

    def test_no_hand(self):
        world = led((3, 3, 3), *ASKED, ("again", 0))
        for thing in NO_HANDS:
            for parts in (("ask", thing, 9), ("offer", thing, 0, 7), ("give", thing, 1, ((0, 0),)), ("again", thing),
                          ("fall", thing), ("rise", thing)):
                self.refused(world, NoHand, thing, world.do, parts)

    def test_as_the_hand_refuses(self):
        world = led((3, 3, 3), *ASKED)
        for deed, error, value in (
                (("ask", 0, 1), OldBallot, 1), (("ask", 0, None), OldBallot, None), (("ask", 0, True), OldBallot, True),
                (("offer", 1, 0, 7), NotMost, 1), (("offer", 0, 20, 7), FarRow, 20), (("offer", 0, -1, 7), FarRow, -1),
                (("offer", 0, "0", 7), FarRow, "0"), (("give", 0, 0, ((0, 0),)), NoHand, 0),
                (("give", 0, 3, ((0, 0),)), NoHand, 3), (("give", 0, True, ((0, 0),)), NoHand, True),
                (("give", 0, 1, ()), NoLot, ()), (("give", 0, 1, [(0, 0)]), NoLot, [(0, 0)]),
                (("give", 0, 1, ((0, 3),)), NotHeld, 3), (("give", 1, 0, ((0, 3),)), NotHeld, 0),
                (("rise", 0), Standing, 0)):
            self.refused(world, error, value, world.do, deed)
        world.do(("offer", 0, 0, 7))
        world.settle((0, 1, 2))
        self.refused(world, Known, 0, world.do, ("offer", 0, 0, 7))
        self.refused(world, FarRow, 21, world.do, ("offer", 0, 21, 7))

    def test_of_a_hand_that_is_down(self):
        world = led((3, 3, 3), *ASKED, ("fall", 1))
        for deed in (("ask", 1, 9), ("offer", 1, 0, 7), ("give", 1, 0, ((3, 3),)), ("again", 1), ("fall", 1)):
            self.refused(world, Fallen, 1, world.do, deed)

    def test_no_word(self):
        world = led((3, 3, 3), *ASKED)
        for word in NO_NUMBERS:
            self.refused(world, NoWord, word, world.do, ("offer", 0, 0, word))
        self.is_told(world.do(("offer", 0, 0, 0)), 0)

    def test_things_of_any_kind(self):
        world = led((3, 3, 3), *ASKED)
        for thing in ODD + DEEPEST:
            is_number = isinstance(thing, int) and not isinstance(thing, bool)
            if not is_number or thing < 2:
                self.refused(world, OldBallot, thing, world.do, ("ask", 0, thing))
            if not is_number or not 0 <= thing < 20:
                self.refused(world, FarRow, thing, world.do, ("offer", 0, thing, 7))
            if not is_number or thing not in (1, 2):
                self.refused(world, NoHand, thing, world.do, ("give", 0, thing, ((0, 0),)))
            self.refused(world, NoLot, thing, world.do, ("give", 0, 1, thing))


class InOrder(WorldCase):
    """Where several refusals are due at once, the one told first goes."""

    def test_no_deed_ahead_of_all(self):
        world = led((3, 3, 3), ("fall", 1))
        for deed in (("ask", 9), ("offer", None, None), ("come", 9, 9), ["come", 9], ("fall", 1, 1), ("none", 9)):
            self.refused(world, NoDeed, deed, world.do, deed)

    def test_no_hand_ahead_of_what_the_hand_refuses(self):
        world = led((3, 3, 3))
        for deed in (("ask", 3, None), ("offer", 3, None, None), ("give", 3, 3, None), ("rise", 3)):
            self.refused(world, NoHand, 3, world.do, deed)

    def test_fallen_ahead_of_what_else_the_hand_refuses(self):
        world = led((3, 3, 3), ("fall", 1))
        for deed in (("ask", 1, None), ("offer", 1, None, None), ("offer", 1, 0, None), ("offer", 1, 99, -1),
                     ("give", 1, None, None), ("give", 1, 0, None), ("give", 1, 0, ((0, 0),))):
            self.refused(world, Fallen, 1, world.do, deed)

    def test_no_word_ahead_of_what_else_the_hand_refuses(self):
        world = led((3, 3, 3), *CHOSEN)
        for name, row in ((1, 1), (1, None), (0, 0), (0, 99), (0, None), (2, -1)):
            for word in (None, -1, True, "7", (7,)):
                self.refused(world, NoWord, word, world.do, ("offer", name, row, word))

    def test_then_not_most_known_far_row(self):
        world = led((3, 3, 3), *CHOSEN)
        for row in (0, 1, 99, None):
            self.refused(world, NotMost, 1, world.do, ("offer", 1, row, 7))
        self.refused(world, Known, 0, world.do, ("offer", 0, 0, 7))

    def test_no_hand_no_lot_not_held(self):
        world = led((3, 3, 3))
        self.refused(world, NoHand, 0, world.do, ("give", 0, 0, None))
        self.refused(world, NoHand, 4, world.do, ("give", 0, 4, ((0, 9),)))
        self.refused(world, NoLot, ((9, 8),), world.do, ("give", 0, 1, ((9, 8),)))
        self.refused(world, NotHeld, 3, world.do, ("give", 0, 1, ((1, 1), (3, 9))))

    def test_refused_in_the_midst_it_goes_on(self):
        world, other = led((3, 3, 3)), led((3, 3, 3))
        for deed in CHOSEN + (("give", 1, 2, ((4, 5),)), ("come", 0), ("fall", 2)):
            for wrong in (("ask", 0, 0), ("come", 99), ("give", 0, 1, ((0, 99),)), ("rise", 1), (), None):
                with self.assertRaises((ValueError, LookupError)):
                    world.do(wrong)
            self.is_told(world.do(deed), other.do(deed))
            self.assertTrue(world == other)

    def test_by_name(self):
        world = led((3, 3, 3))
        self.assertIsNone(world.do(deed=("ask", 0, 1)))
        self.is_told(world.road(), ASKS)
        self.assertEqual(len(led((3, 3, 3), ("ask", 0, 1), *comes(2))), 2)
