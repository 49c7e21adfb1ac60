import copy

from ridingvotes.hands import Hand
from tests.hand_case import NONE, HandCase, hold, pair, parts_of, trio
from tests.things import DEEPEST, FAR, LONG, ODD


class AtFirst(HandCase):
    def test_book_and_mind_part_by_part(self):
        holding = hold(3, 5) + hold(8, 9, (2, 1), (0, (1, 0), 7))
        hand = Hand(1, 3, 10, holding)
        self.assertEqual(hand.book(), (1, holding, NONE, (), 0, (), (), (), (), (0, 0, 0), (0, 0, 0), ()))
        self.assertEqual(hand.mind(), (None, (), (0, 0, 0), NONE))
        self.assertEqual(repr((hand.book(), hand.mind())), repr((
            (1, holding, (0, 0), (), 0, (), (), (), (), (0, 0, 0), (0, 0, 0), ()), (None, (), (0, 0, 0), (0, 0)))))

    def test_one_hand_and_eight(self):
        self.assertEqual(Hand(0, 1, 5, hold(0, 4)).book()[9:11], ((0,), (0,)))
        self.assertEqual(Hand(0, 1, 5, hold(0, 4)).mind()[2], (0,))
        self.assertEqual(Hand(7, 8, 5, ()).book(), (7, (), NONE, (), 0, (), (), (), (), (0,) * 8, (0,) * 8, ()))
        self.assertEqual(Hand(7, 8, 5, ()).mind(), (None, (), (0,) * 8, NONE))

    def test_by_names(self):
        hand = Hand(holding=hold(0, 3), points=9, hands=2, name=1)
        self.assertEqual(hand.book(), (1, hold(0, 3), NONE, (), 0, (), (), (), (), (0, 0), (0, 0), ()))

    def test_it_is_up(self):
        self.assertIsNotNone(Hand(0, 2, 9, ()).mind())
        self.assertEqual(Hand(0, 2, 9, ()).again(), ())

    def test_the_same_question_is_told_the_same(self):
        hand = trio()[0]
        hand.ask(1)
        self.assertEqual(hand.book(), hand.book())
        self.assertEqual(hand.mind(), hand.mind())

    def test_what_was_told_ahead_is_as_it_was(self):
        holding = hold(0, 2)
        hand = Hand(0, 3, 3, holding)
        told = [hand.book(), hand.mind(), hand.ask(1), hand.offer(0, 5), hand.give(1, ((0, 0),)), hand.book(),
                hand.mind(), hand.again()]
        before = copy.deepcopy(told)
        hand.ask(2)
        hand.offer(1, 6)
        hand.hear(("receipt", 1, 0, 1, 1))
        hand.give(2, ((1, 2),))
        hand.fall()
        self.assertEqual(repr(told), repr(before))
        self.assertEqual(holding, hold(0, 2))


class Held(HandCase):
    def test_how_many_points(self):
        self.assertEqual(Hand(0, 2, 9, ()).held(), 0)
        self.assertEqual(Hand(0, 2, 9, hold(4, 4)).held(), 1)
        self.assertEqual(Hand(0, 2, 90, hold(0, 3) + hold(4, 9, (1, 0)) + hold(20, 20)).held(), 11)
        self.assertEqual(Hand(0, 2, FAR, hold(0, LONG) + hold(2 * LONG, 3 * LONG)).held(), 2 * LONG + 2)

    def test_behind_giving_and_taking(self):
        one, other = pair(4, 3)
        letters = one.give(1, ((1, 2),))
        self.assertEqual((one.held(), other.held()), (2, 3))
        other.hear(letters[0])
        self.assertEqual((one.held(), other.held()), (2, 5))

    def test_of_one_that_is_down(self):
        hand = trio()[1]
        hand.fall()
        self.assertEqual(hand.held(), 3)


class Alike(HandCase):
    def alike(self, one, other):
        self.assertIs(one == other, True)
        self.assertIs(other == one, True)
        self.assertIs(one != other, False)

    def unlike(self, one, other):
        self.assertIs(one == other, False)
        self.assertIs(other == one, False)
        self.assertIs(one != other, True)

    def test_at_first(self):
        self.alike(Hand(0, 2, 9, hold(0, 3)), Hand(0, 2, 9, hold(0, 3)))
        hand = Hand(0, 2, 9, ())
        self.alike(hand, hand)

    def test_how_many_points_there_are_counts_for_nothing(self):
        self.alike(Hand(0, 2, 9, hold(0, 3)), Hand(0, 2, 10, hold(0, 3)))

    def test_name_hands_and_holding_count(self):
        hand = Hand(0, 2, 9, hold(0, 3))
        self.unlike(hand, Hand(1, 2, 9, hold(0, 3)))
        self.unlike(hand, Hand(0, 3, 9, hold(0, 3)))
        self.unlike(hand, Hand(0, 2, 9, hold(0, 4)))
        self.unlike(hand, Hand(0, 2, 9, hold(0, 3, (1, 0))))
        self.unlike(hand, Hand(0, 2, 9, ()))

    def test_each_part_counts(self):
        """One thing otherwise each, by which just this part of book or mind is otherwise."""
        given = (("give", 1, ((0, 0),)),)
        asked = (("ask", 1),)
        parcel = ("parcel", 1, 0, 0, hold(3, 3), 0, ())
        for one, other, unlike in (
                (given + (("hear", ("receipt", 1, 0, 1, 0)),), given + (("hear", ("receipt", 1, 0, 1, 1)),),
                 {"learns"}),
                (asked, asked + (("hear", ("late", 1, 0, (1, 0), (3, 1))),), {"late"}),
                ((("fall",),), (), {"gathered", "counts", "learns", "late"}),
                (asked, asked + (("fall",), ("rise",)), {"gathered"}),
                (asked + (("hear", ("told", 1, 0, (1, 0), hold(3, 3, (1, 0)), 0, ())),),
                 asked + (("hear", ("told", 1, 0, (1, 0), hold(3, 4, (1, 0)), 0, ())),), {"gathered"}),
                ((("hear", ("ask", 1, 0, (2, 1), 0)),), (("hear", ("ask", 1, 0, (3, 1), 0)),), {"heard", "holding"}),
                ((("give", 1, ((0, 0),)),), (("give", 2, ((0, 0),)),), {"outbox", "sent"}),
                ((("give", 1, ((0, 0),)), ("hear", ("receipt", 1, 0, 1, 0))),
                 (("give", 2, ((0, 0),)), ("hear", ("receipt", 2, 0, 1, 0))), {"sent"}),
                ((("hear", parcel),), (("hear", parcel), ("give", 2, ((3, 3),)), ("hear", ("receipt", 2, 0, 1, 0))),
                 {"holding", "sent"}),
                ((("hear", ("known", 1, 0, 0, (5,))),), (("hear", ("known", 1, 0, 0, (6,))),), {"known"}),
                ((("hear", ("parcel", 1, 0, 0, hold(3, 3), 0, ())),),
                 (("hear", ("parcel", 2, 0, 0, hold(3, 3), 0, ())),), {"taken"})):
            hands = []
            for deeds in (one, other):
                hands.append(trio()[0])
                for deed, *parts in deeds:
                    getattr(hands[-1], deed)(*parts)
            parts = [parts_of(hand) for hand in hands]
            with self.subTest(unlike):
                self.assertEqual({name for name in parts[0] if parts[0][name] != parts[1][name]}, unlike)
                self.unlike(*hands)

    def test_offers_and_what_comes_of_them_count(self):
        first, other = [], []
        for hands, deeds in ((first, ((0, 5), (2, 6))), (other, ((0, 5), (2, 7)))):
            for many in range(3):
                hand = Hand(0, 3, 9, hold(0, 3))
                hand.ask(1)
                hand.hear(("told", 1, 0, (1, 0), hold(4, 6, (1, 0)), 0, ()))
                for row, word in deeds[:many]:
                    hand.offer(row, word)
                hands.append(hand)
        self.alike(first[0], other[0])
        self.alike(first[1], other[1])
        self.unlike(first[2], other[2])
        self.unlike(first[0], first[1])
        self.unlike(first[1], first[2])
        first[1].hear(("took", 1, 0, (1, 0), 0, ((4, 4),)))
        self.unlike(first[1], other[1])
        other[1].hear(("took", 2, 0, (1, 0), 0, ((4, 4),)))
        self.alike(first[1], other[1])

    def test_both_down(self):
        one, other = trio()[0], trio()[0]
        one.ask(1)
        other.ask(1)
        one.hear(("late", 1, 0, (1, 0), (3, 1)))
        self.unlike(one, other)
        one.fall()
        other.fall()
        self.alike(one, other)
        one.rise()
        self.unlike(one, other)
        other.rise()
        self.alike(one, other)

    def test_anything_else(self):
        hand = Hand(0, 2, 9, ())
        for thing in ODD + DEEPEST + [(), hand.book(), hand.mind(), (hand.book(), hand.mind()), object(), Hand]:
            self.unlike(hand, thing)
