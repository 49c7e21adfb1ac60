from ridingvotes.errors import Fallen, FarRow, Known, NoHand, NoLot, NotHeld, NotMost, OldBallot, Standing
from ridingvotes.hands import Hand
from tests.hand_case import DOWN, NONE, HandCase, hold, pair, trio
from tests.things import DEEPEST, FAR, LONG, ODD


def with_most():
    """Hand 0 of three, of points 0 to 3 of nine; its asking (1, 0) was told of three points of hand 1, too."""
    hand = Hand(0, 3, 9, hold(0, 3))
    hand.ask(1)
    hand.hear(("told", 1, 0, (1, 0), hold(4, 6, (1, 0)), 0, ()))
    return hand


class Ask(HandCase):
    def test_the_first(self):
        self.does(trio()[1], (("ask", 1, 0, (1, 1), 0), ("ask", 1, 2, (1, 1), 0)), "ask", 1,
                  number=1, heard=(1, 1), holding=hold(3, 5, (1, 1)), gathered=hold(3, 5, (1, 1)))

    def test_numbers_may_be_left_out(self):
        hand = trio()[2]
        hand.ask(4)
        self.does(hand, (("ask", 2, 0, (9, 2), 0), ("ask", 2, 1, (9, 2), 0)), "ask", 9,
                  number=9, heard=(9, 2), holding=hold(6, 8, (9, 2)), gathered=hold(6, 8, (9, 2)))

    def test_of_one_two_and_eight_hands(self):
        self.does(Hand(0, 1, 5, hold(0, 4)), (), "ask", 1,
                  number=1, heard=(1, 0), holding=hold(0, 4, (1, 0)), gathered=hold(0, 4, (1, 0)))
        self.does(pair()[1], (("ask", 1, 0, (3, 1), 0),), "ask", 3,
                  number=3, heard=(3, 1), holding=hold(4, 7, (3, 1)), gathered=hold(4, 7, (3, 1)))
        self.does(Hand(5, 8, 9, hold(1, 1)), tuple(("ask", 5, to, (1, 5), 0) for to in (0, 1, 2, 3, 4, 6, 7)), "ask", 1,
                  number=1, heard=(1, 5), holding=hold(1, 1, (1, 5)), gathered=hold(1, 1, (1, 5)))

    def test_without_points(self):
        self.does(Hand(0, 2, 9, ()), (("ask", 0, 1, (1, 0), 0),), "ask", 1, number=1, heard=(1, 0), gathered=())

    def test_offers_counts_gathered_and_standing_begin_anew(self):
        hand = with_most()
        hand.offer(0, 5)
        hand.offer(2, 6)
        self.has(hand, standing=((0, 5), (2, 6)), offers=((0, 5), (2, 6)), counts=((0, ((0, 3),)), (2, ((0, 3),))))
        taken = ((0, (1, 0), 5), (2, (1, 0), 6))
        self.does(hand, (("ask", 0, 1, (2, 0), 0), ("ask", 0, 2, (2, 0), 0)), "ask", 2,
                  number=2, heard=(2, 0), standing=(), offers=(), counts=(), holding=hold(0, 3, (2, 0), *taken),
                  gathered=hold(0, 3, (2, 0), *taken))

    def test_points_that_promised_a_greater_ballot_are_not_gathered(self):
        hand = trio()[0]
        hand.hear(("parcel", 1, 0, 0, hold(3, 4, (9, 1)), 0, ()))
        self.does(hand, (("ask", 0, 1, (2, 0), 0), ("ask", 0, 2, (2, 0), 0)), "ask", 2,
                  number=2, heard=(2, 0), holding=hold(0, 2, (2, 0)) + hold(3, 4, (9, 1)), gathered=hold(0, 2, (2, 0)))

    def test_where_it_heard_a_greater_ballot(self):
        for heard, number in (((5, 2), 3), ((5, 2), 5), ((5, 1), 5), ((2, 1), 1)):
            with self.subTest(heard=heard, number=number):
                hand = trio()[0]
                hand.hear(("ask", heard[1], 0, heard, 0))
                hand.hear(("offer", heard[1], 0, heard, 0, 7))
                letters = (("ask", 0, 1, (number, 0), 0), ("ask", 0, 2, (number, 0), 0))
                self.does(hand, letters, "ask", number, number=number, gathered=(), late=heard)

    def test_it_begins_anew_there_too(self):
        hand = with_most()
        hand.offer(0, 5)
        hand.hear(("offer", 2, 0, (5, 2), 1, 7))
        self.does(hand, (("ask", 0, 1, (4, 0), 0), ("ask", 0, 2, (4, 0), 0)), "ask", 4,
                  number=4, offers=(), counts=(), gathered=(), late=(5, 2))

    def test_the_greater_of_late_and_the_ballot_heard(self):
        for told, late in (((7, 1), (7, 1)), ((4, 1), (5, 2)), ((5, 1), (5, 2))):
            with self.subTest(told):
                hand = trio()[0]
                hand.ask(1)
                hand.hear(("late", 1, 0, (1, 0), told))
                hand.hear(("ask", 2, 0, (5, 2), 0))
                self.does(hand, (("ask", 0, 1, (2, 0), 0), ("ask", 0, 2, (2, 0), 0)), "ask", 2,
                          number=2, gathered=(), late=late)

    def test_a_greater_ballot_than_the_one_heard(self):
        for heard, name, number in (((5, 2), 0, 6), ((5, 0), 2, 5), ((5, 0), 1, 6)):
            with self.subTest(heard=heard, number=number):
                hand = trio()[name]
                hand.hear(("ask", heard[1], name, heard, 0))
                hand.hear(("offer", heard[1], name, heard, 0, 7))
                holding = hold(3 * name, 3 * name + 2, (number, name), (0, heard, 7))
                letters = tuple(("ask", name, to, (number, name), 0) for to in range(3) if to != name)
                self.does(hand, letters, "ask", number,
                          number=number, heard=(number, name), standing=(), holding=holding, gathered=holding)

    def test_how_many_rows_it_knows(self):
        hand = trio()[0]
        hand.hear(("known", 1, 0, 0, (4, 5, 6)))
        self.does(hand, (("ask", 0, 1, (1, 0), 3), ("ask", 0, 2, (1, 0), 3)), "ask", 1,
                  number=1, heard=(1, 0), holding=hold(0, 2, (1, 0)), gathered=hold(0, 2, (1, 0)))

    def test_great_runs(self):
        hand = Hand(0, 2, FAR, hold(0, LONG))
        self.does(hand, (("ask", 0, 1, (FAR, 0), 0),), "ask", FAR,
                  number=FAR, heard=(FAR, 0), holding=hold(0, LONG, (FAR, 0)), gathered=hold(0, LONG, (FAR, 0)))

    def test_old_ballots(self):
        hand = trio()[0]
        for number in (0, -1, -FAR):
            self.refused(hand, OldBallot, number, "ask", number)
        hand.ask(4)
        for number in (4, 3, 1, 0, -4):
            self.refused(hand, OldBallot, number, "ask", number)
        hand.fall()
        hand.rise()
        self.refused(hand, OldBallot, 4, "ask", 4)
        hand.ask(5)
        self.has(hand, number=5)

    def test_numbers_of_any_kind(self):
        hand = trio()[0]
        for thing in ODD + DEEPEST + [()]:
            if not isinstance(thing, int) or isinstance(thing, bool) or thing < 1:
                self.refused(hand, OldBallot, thing, "ask", thing)

    def test_of_one_that_is_down(self):
        hand = trio()[2]
        hand.fall()
        for thing in (1, 0, True, None, [1]):
            self.refused(hand, Fallen, 2, "ask", thing)

    def test_by_name(self):
        self.assertEqual(pair()[0].ask(number=2), (("ask", 0, 1, (2, 0), 0),))


class Offer(HandCase):
    LETTERS = (("offer", 0, 1, (1, 0), 0, 5), ("offer", 0, 2, (1, 0), 0, 5))

    def test_the_word_handed_in(self):
        self.does(with_most(), (5, self.LETTERS), "offer", 0, 5,
                  holding=hold(0, 3, (1, 0), (0, (1, 0), 5)), standing=((0, 5),), offers=((0, 5),),
                  log=((0, (1, 0), 5, ((0, 3),)),), counts=((0, ((0, 3),)),))

    def test_several_rows(self):
        hand = with_most()
        hand.offer(3, 8)
        hand.offer(0, 5)
        taken = ((0, (1, 0), 5), (1, (1, 0), 0), (3, (1, 0), 8))
        self.does(hand, (0, (("offer", 0, 1, (1, 0), 1, 0), ("offer", 0, 2, (1, 0), 1, 0))), "offer", 1, 0,
                  holding=hold(0, 3, (1, 0), *taken), standing=((0, 5), (1, 0), (3, 8)),
                  offers=((0, 5), (1, 0), (3, 8)),
                  log=((0, (1, 0), 5, ((0, 3),)), (1, (1, 0), 0, ((0, 3),)), (3, (1, 0), 8, ((0, 3),))),
                  counts=((0, ((0, 3),)), (1, ((0, 3),)), (3, ((0, 3),))))

    def test_a_row_already_offered(self):
        hand = with_most()
        hand.offer(0, 5)
        self.does(hand, (5, self.LETTERS), "offer", 0, 9)
        self.does(hand, (5, self.LETTERS), "offer", 0, 5)

    def test_the_word_that_it_must_offer(self):
        hand = Hand(0, 3, 9, hold(0, 3))
        hand.ask(2)
        hand.hear(("told", 1, 0, (2, 0), hold(4, 6, (2, 0), (0, (1, 1), 8), (2, (1, 2), 6)), 0, ()))
        for row, word in ((0, 8), (1, 5), (2, 6), (3, 5)):
            with self.subTest(row):
                letters = (("offer", 0, 1, (2, 0), row, word), ("offer", 0, 2, (2, 0), row, word))
                self.assertEqual(hand.offer(row, 5), (word, letters))
        self.has(hand, offers=((0, 8), (1, 5), (2, 6), (3, 5)), standing=((0, 8), (1, 5), (2, 6), (3, 5)))

    def test_the_word_by_the_greatest_ballot(self):
        hand = Hand(2, 3, 9, hold(6, 8))
        hand.hear(("ask", 0, 2, (1, 0), 0))
        hand.hear(("offer", 0, 2, (1, 0), 0, 4))
        hand.ask(3)
        hand.hear(("told", 0, 2, (3, 2), hold(0, 0, (3, 2), (0, (1, 0), 4)), 0, ()))
        hand.hear(("told", 1, 2, (3, 2), hold(3, 4, (3, 2), (0, (2, 1), 3)), 0, ()))
        self.assertEqual(hand.offer(0, 9)[0], 3)
        self.has(hand, offers=((0, 3),))

    def test_what_was_offered_goes_ahead_of_what_is_told_later(self):
        # Fewer than most points took another word by a lesser ballot, which is told only when enough are told.
        hand = Hand(1, 3, 11, hold(0, 4))
        hand.ask(2)
        hand.hear(("told", 0, 1, (2, 1), hold(5, 5, (2, 1)), 0, ()))
        hand.offer(0, 5)
        hand.hear(("told", 2, 1, (2, 1), hold(7, 8, (2, 1), (0, (1, 0), 3)), 0, ()))
        self.assertEqual(hand.offer(0, 9)[0], 5)

    def test_chosen_at_once(self):
        hand = Hand(0, 3, 9, hold(0, 4))
        hand.ask(1)
        letters = self.LETTERS + (("known", 0, 1, 0, (5,)), ("known", 0, 2, 0, (5,)))
        self.does(hand, (5, letters), "offer", 0, 5,
                  holding=hold(0, 4, (1, 0)), known=(5,), log=((0, (1, 0), 5, ((0, 4),)),), learns=(1, 0, 0),
                  gathered=hold(0, 4, (1, 0)))

    def test_chosen_at_once_by_a_hand_alone(self):
        hand = Hand(0, 1, 5, hold(0, 4))
        hand.ask(1)
        self.does(hand, (7, ()), "offer", 0, 7, known=(7,), log=((0, (1, 0), 7, ((0, 4),)),), learns=(1,))
        self.does(hand, (8, ()), "offer", 1, 8, known=(7, 8), learns=(2,),
                  log=((0, (1, 0), 7, ((0, 4),)), (1, (1, 0), 8, ((0, 4),))))

    def test_chosen_beyond_a_gap_then_the_gap_filled(self):
        hand = Hand(0, 3, 9, hold(0, 4))
        hand.ask(1)
        letters = (("offer", 0, 1, (1, 0), 1, 6), ("offer", 0, 2, (1, 0), 1, 6))
        self.does(hand, (6, letters), "offer", 1, 6, holding=hold(0, 4, (1, 0), (1, (1, 0), 6)), standing=((1, 6),),
                  offers=((1, 6),), more=((1, 6),), log=((1, (1, 0), 6, ((0, 4),)),), counts=((1, ((0, 4),)),))
        letters = (("offer", 0, 1, (1, 0), 3, 8), ("offer", 0, 2, (1, 0), 3, 8))
        self.does(hand, (8, letters), "offer", 3, 8,
                  holding=hold(0, 4, (1, 0), (1, (1, 0), 6), (3, (1, 0), 8)), standing=((1, 6), (3, 8)),
                  offers=((1, 6), (3, 8)), more=((1, 6), (3, 8)), counts=((1, ((0, 4),)), (3, ((0, 4),))),
                  log=((1, (1, 0), 6, ((0, 4),)), (3, (1, 0), 8, ((0, 4),))))
        letters = self.LETTERS + (("known", 0, 1, 0, (5, 6)), ("known", 0, 2, 0, (5, 6)))
        self.does(hand, (5, letters), "offer", 0, 5,
                  holding=hold(0, 4, (1, 0), (3, (1, 0), 8)), standing=((3, 8),), offers=((3, 8),), known=(5, 6),
                  more=((3, 8),), counts=((3, ((0, 4),)),), learns=(2, 0, 0),
                  log=((0, (1, 0), 5, ((0, 4),)), (1, (1, 0), 6, ((0, 4),)), (3, (1, 0), 8, ((0, 4),))))

    def test_what_gathered_took_falls_out_too(self):
        hand = Hand(0, 3, 9, hold(0, 4))
        hand.ask(2)
        hand.hear(("told", 1, 0, (2, 0), hold(5, 6, (2, 0), (0, (1, 1), 5), (1, (1, 1), 6)), 0, ()))
        hand.offer(0, 7)
        self.has(hand, gathered=hold(0, 4, (2, 0)) + hold(5, 6, (2, 0), (1, (1, 1), 6)), known=(5,))

    def test_to_whom_what_is_known_is_sent(self):
        hand = Hand(0, 4, 9, hold(0, 4))
        hand.hear(("known", 2, 0, 0, (4,)))
        hand.hear(("ask", 1, 0, (1, 1), 1))
        hand.hear(("ask", 3, 0, (1, 3), 2))
        hand.ask(2)
        letters = tuple(("offer", 0, to, (2, 0), 1, 5) for to in (1, 2, 3))
        letters += (("known", 0, 1, 1, (5,)), ("known", 0, 2, 1, (5,)))
        self.assertEqual(hand.offer(1, 5), (5, letters))
        self.has(hand, known=(4, 5), learns=(2, 1, 1, 2))

    def test_points_that_promised_a_greater_ballot_do_not_take(self):
        hand = with_most()
        hand.hear(("parcel", 2, 0, 0, hold(7, 7, (3, 2)), 0, ()))
        self.does(hand, (5, self.LETTERS), "offer", 0, 5,
                  holding=hold(0, 3, (1, 0), (0, (1, 0), 5)) + hold(7, 7, (3, 2)), standing=((0, 5),), offers=((0, 5),),
                  log=((0, (1, 0), 5, ((0, 3),)),), counts=((0, ((0, 3),)),))

    def test_no_point_takes(self):
        hand = Hand(0, 3, 5, ())
        hand.ask(1)
        hand.hear(("told", 1, 0, (1, 0), hold(0, 4, (1, 0)), 0, ()))
        self.does(hand, (5, self.LETTERS), "offer", 0, 5, standing=((0, 5),), offers=((0, 5),), counts=((0, ()),))

    def test_where_it_heard_a_greater_ballot(self):
        hand = with_most()
        hand.hear(("ask", 2, 0, (1, 2), 0))
        hand.hear(("offer", 2, 0, (1, 2), 0, 7))
        self.does(hand, (5, self.LETTERS), "offer", 0, 5, offers=((0, 5),), late=(1, 2))
        hand.hear(("late", 1, 0, (1, 0), (4, 1)))
        letters = (("offer", 0, 1, (1, 0), 1, 6), ("offer", 0, 2, (1, 0), 1, 6))
        self.does(hand, (6, letters), "offer", 1, 6, offers=((0, 5), (1, 6)))

    def test_not_most(self):
        hand = trio()[0]
        self.refused(hand, NotMost, 0, "offer", 0, 5)
        hand.ask(1)
        self.refused(hand, NotMost, 0, "offer", 0, 5)
        hand.hear(("told", 1, 0, (1, 0), hold(3, 3, (1, 0)), 0, ()))
        self.refused(hand, NotMost, 0, "offer", 0, 5)
        hand.hear(("told", 1, 0, (1, 0), hold(3, 3, (1, 0)), 0, ()))
        self.refused(hand, NotMost, 0, "offer", 0, 5)
        hand.hear(("told", 2, 0, (1, 0), hold(8, 8, (1, 0)), 0, ()))
        self.assertEqual(hand.offer(0, 5), (5, self.LETTERS))

    def test_at_just_half(self):
        hand = pair(4, 4)[0]
        hand.ask(1)
        self.refused(hand, NotMost, 0, "offer", 0, 5)
        hand.hear(("told", 1, 0, (1, 0), hold(7, 7, (1, 0)), 0, ()))
        self.assertEqual(hand.offer(0, 5), (5, (("offer", 0, 1, (1, 0), 0, 5),)))
        self.has(hand, counts=((0, ((0, 3),)),), known=())

    def test_not_most_behind_a_fall_or_another_asking(self):
        hand = with_most()
        hand.offer(0, 5)
        hand.fall()
        hand.rise()
        self.refused(hand, NotMost, 0, "offer", 0, 5)
        hand = with_most()
        hand.ask(2)
        self.refused(hand, NotMost, 0, "offer", 0, 5)

    def test_rows_that_it_knows(self):
        hand = Hand(0, 3, 9, hold(0, 4))
        hand.hear(("known", 1, 0, 0, (3, 4)))
        hand.ask(1)
        hand.offer(4, 9)
        self.has(hand, known=(3, 4), more=((4, 9),))
        for row in (0, 1, 4):
            self.refused(hand, Known, row, "offer", row, 9)
        self.assertEqual([hand.offer(row, 7)[0] for row in (3, 2)], [7, 7])
        self.has(hand, known=(3, 4, 7, 7, 9), more=())
        self.refused(hand, Known, 4, "offer", 4, 9)

    def test_how_far_rows_may_be(self):
        hand = with_most()
        self.refused(hand, FarRow, 20, "offer", 20, 5)
        self.assertEqual(hand.offer(19, 5)[0], 5)
        hand.hear(("known", 1, 0, 0, (4, 4, 4)))
        self.refused(hand, FarRow, 23, "offer", 23, 5)
        self.assertEqual(hand.offer(22, 6)[0], 6)
        self.assertEqual(hand.offer(3, 6)[0], 6)
        self.refused(hand, FarRow, FAR, "offer", FAR, 5)

    def test_rows_of_any_kind(self):
        hand = with_most()
        for thing in ODD + DEEPEST + [()]:
            if not isinstance(thing, int) or isinstance(thing, bool) or not 0 <= thing < 20:
                self.refused(hand, FarRow, thing, "offer", thing, 5)
        alone = Hand(0, 1, 5, hold(0, 4))
        alone.ask(1)
        alone.offer(0, 3)
        alone.offer(1, 3)
        for thing in (True, False, -1, -2, None, "0", (1,), [0], {0: 1}):
            self.refused(alone, FarRow, thing, "offer", thing, 5)

    def test_several_refusals_due(self):
        hand = Hand(1, 3, 9, hold(0, 4))
        hand.ask(1)
        hand.offer(0, 5)
        hand.offer(2, 5)
        hand.ask(2)
        hand.give(0, ((0, 4),))
        hand.ask(3)
        for row in (0, 2, 1, 22, -1, True, None, [0]):
            self.refused(hand, NotMost, 1, "offer", row, 5)
        hand.fall()
        for row in (0, 2, 1, 22, -1, True, None, [0]):
            self.refused(hand, Fallen, 1, "offer", row, 5)

    def test_known_goes_ahead_of_far(self):
        """A row of more can't be far; a row known without a gap is not from how many rows it knows."""
        hand = Hand(1, 3, 9, hold(0, 4))
        hand.ask(1)
        hand.offer(0, 5)
        self.refused(hand, Known, 0, "offer", 0, 5)
        self.refused(hand, FarRow, -1, "offer", -1, 5)
        self.refused(hand, FarRow, False, "offer", False, 5)

    def test_great_runs(self):
        hand = Hand(0, 2, 2 * LONG, hold(0, LONG))
        hand.ask(1)
        self.assertEqual(hand.offer(0, FAR), (FAR, (("offer", 0, 1, (1, 0), 0, FAR), ("known", 0, 1, 0, (FAR,)))))
        self.has(hand, log=((0, (1, 0), FAR, ((0, LONG),)),))

    def test_by_names(self):
        self.assertEqual(with_most().offer(word=5, row=0), (5, self.LETTERS))


class Give(HandCase):
    def test_points_leave_in_a_parcel(self):
        hand = trio()[0]
        self.does(hand, (("parcel", 0, 2, 0, hold(1, 2), 0, ()),), "give", 2, ((1, 2),),
                  holding=hold(0, 0), outbox=((2, 0, hold(1, 2), 0, ()),), sent=(0, 0, 1))

    def test_numbers_for_each_hand_and_the_order_of_the_outbox(self):
        hand = Hand(1, 3, 9, hold(0, 8))
        self.assertEqual(hand.give(2, ((0, 0),)), (("parcel", 1, 2, 0, hold(0, 0), 0, ()),))
        self.assertEqual(hand.give(0, ((4, 4),)), (("parcel", 1, 0, 0, hold(4, 4), 0, ()),))
        self.assertEqual(hand.give(2, ((8, 8),)), (("parcel", 1, 2, 1, hold(8, 8), 0, ()),))
        self.does(hand, (("parcel", 1, 0, 1, hold(2, 3) + hold(6, 7), 0, ()),), "give", 0, ((2, 3), (6, 7)),
                  holding=hold(1, 1) + hold(5, 5), sent=(2, 0, 2),
                  outbox=((2, 0, hold(0, 0), 0, ()), (0, 0, hold(4, 4), 0, ()), (2, 1, hold(8, 8), 0, ()),
                          (0, 1, hold(2, 3) + hold(6, 7), 0, ())))

    def test_numbers_go_on_behind_a_receipt_and_a_fall(self):
        hand = trio()[0]
        hand.give(1, ((0, 0),))
        hand.hear(("receipt", 1, 0, 1, 0))
        hand.fall()
        hand.rise()
        self.does(hand, (("parcel", 0, 1, 1, hold(2, 2), 0, ()),), "give", 1, ((2, 2),),
                  holding=hold(1, 1), outbox=((1, 1, hold(2, 2), 0, ()),), sent=(0, 2, 0))

    def test_all_points(self):
        hand = Hand(0, 2, 3 * LONG, hold(0, LONG, (1, 1)) + hold(2 * LONG, 3 * LONG - 1))
        part = hold(0, LONG, (1, 1)) + hold(2 * LONG, 3 * LONG - 1)
        self.does(hand, (("parcel", 0, 1, 0, part, 0, ()),), "give", 1, ((0, LONG), (2 * LONG, 3 * LONG - 1)),
                  holding=(), outbox=((1, 0, part, 0, ()),), sent=(0, 1))

    def test_what_points_have_promised_and_took_rides_with_them(self):
        hand = with_most()
        hand.offer(1, 6)
        part = hold(2, 3, (1, 0), (1, (1, 0), 6))
        self.does(hand, (("parcel", 0, 1, 0, part, 0, ()),), "give", 1, ((2, 3),),
                  holding=hold(0, 1, (1, 0), (1, (1, 0), 6)), outbox=((1, 0, part, 0, ()),), sent=(0, 1, 0))

    def test_since_and_words(self):
        hand = trio()[0]
        hand.hear(("known", 2, 0, 0, (4, 5, 6)))
        hand.hear(("ask", 1, 0, (1, 1), 1))
        ones = (1, 0, hold(0, 0, (1, 1)), 1, (5, 6))
        self.does(hand, (("parcel", 0) + ones,), "give", 1, ((0, 0),),
                  holding=hold(1, 2, (1, 1)), outbox=(ones,), sent=(0, 1, 0))
        twos = (2, 0, hold(2, 2, (1, 1)), 3, ())
        self.does(hand, (("parcel", 0) + twos,), "give", 2, ((2, 2),),
                  holding=hold(1, 1, (1, 1)), outbox=(ones, twos), sent=(0, 1, 1))
        # What is learnt later doesn't change a parcel that was given.
        hand.hear(("known", 2, 0, 3, (7,)))
        self.has(hand, known=(4, 5, 6, 7), outbox=(ones, twos))

    def test_since_where_the_other_knows_more(self):
        hand = trio()[0]
        hand.hear(("known", 2, 0, 0, (4,)))
        hand.hear(("ask", 1, 0, (1, 1), 3))
        self.assertEqual(hand.give(1, ((0, 0),)), (("parcel", 0, 1, 0, hold(0, 0, (1, 1)), 1, ()),))

    def test_since_behind_a_fall(self):
        hand = trio()[0]
        hand.hear(("known", 2, 0, 0, (4, 5)))
        hand.fall()
        hand.rise()
        self.assertEqual(hand.give(2, ((0, 0),)), (("parcel", 0, 2, 0, hold(0, 0), 0, (4, 5)),))

    def test_log_counts_and_gathered_stay(self):
        hand = with_most()
        hand.offer(0, 5)
        part = hold(0, 3, (1, 0), (0, (1, 0), 5))
        self.does(hand, (("parcel", 0, 2, 0, part, 0, ()),), "give", 2, ((0, 3),),
                  holding=(), outbox=((2, 0, part, 0, ()),), sent=(0, 0, 1))

    def test_no_other_hand(self):
        hand = trio()[1]
        for thing in ODD + DEEPEST + [(), 3, 8]:
            if repr(thing) != "0":
                self.refused(hand, NoHand, thing, "give", thing, ((3, 3),))
        alone = Hand(0, 1, 5, hold(0, 4))
        for thing in (0, 1, -1):
            self.refused(alone, NoHand, thing, "give", thing, ((0, 0),))

    def test_no_lot(self):
        hand = trio()[1]
        for thing in ODD + DEEPEST + [(), ((3, 3), (4, 4)), ((4, 3),), ((5, 5), (3, 3)), [(3, 3)], ([3, 3],),
                                      ((3, True),), ((3, 3, 3),), hold(3, 4), (3, 4)]:
            self.refused(hand, NoLot, thing, "give", 0, thing)

    def test_points_that_it_has_not(self):
        hand = Hand(0, 2, 20, hold(3, 5) + hold(9, 9))
        for lot, point in ((((0, 0),), 0), (((2, 4),), 2), (((3, 6),), 6), (((3, 5), (7, 9)), 7), (((9, 10),), 10),
                           (((0, 1), (4, 4)), 0), (((3, 3), (5, 9)), 6), (((FAR, FAR),), FAR), (((4, LONG),), 6)):
            self.refused(hand, NotHeld, point, "give", 1, lot)
        hand.give(1, ((4, 4),))
        self.refused(hand, NotHeld, 4, "give", 1, ((3, 5),))

    def test_several_refusals_due(self):
        hand = trio()[1]
        for to in (1, 3, -1, True, None, [0]):
            for lot in ((), None, ((0, 0),), ((3, 3),), [(0, 0)]):
                self.refused(hand, NoHand, to, "give", to, lot)
        self.refused(hand, NoLot, ((0, 0), (1, 1)), "give", 0, ((0, 0), (1, 1)))
        hand.fall()
        for to in (0, 1, 3, None):
            for lot in ((), None, ((0, 0),), ((3, 3),), [(0, 0)]):
                self.refused(hand, Fallen, 1, "give", to, lot)

    def test_by_names(self):
        self.assertEqual(trio()[0].give(lot=((0, 2),), to=1), (("parcel", 0, 1, 0, hold(0, 2), 0, ()),))


class Again(HandCase):
    ASKS = (("ask", 0, 1, (1, 0), 0), ("ask", 0, 2, (1, 0), 0))

    def test_nothing_to_send(self):
        self.does(trio()[0], (), "again")

    def test_its_asking(self):
        hand = trio()[0]
        hand.ask(1)
        self.does(hand, self.ASKS, "again")

    def test_its_parcels_in_the_order_given(self):
        hand = Hand(0, 3, 9, hold(0, 8))
        letters = hand.give(2, ((0, 0),)) + hand.give(1, ((1, 1),)) + hand.give(2, ((2, 2),))
        self.does(hand, letters, "again")
        hand.hear(("receipt", 2, 0, 1, 0))
        self.does(hand, letters[1:], "again")
        hand.hear(("receipt", 2, 0, 2, 0))
        self.does(hand, letters[1:2], "again")

    def test_all_parts_in_order(self):
        hand = with_most()
        hand.offer(4, 6)
        hand.offer(0, 5)
        parcels = hand.give(2, ((0, 0),)) + hand.give(1, ((1, 1),))
        offers = (("offer", 0, 1, (1, 0), 0, 5), ("offer", 0, 2, (1, 0), 0, 5),
                  ("offer", 0, 1, (1, 0), 4, 6), ("offer", 0, 2, (1, 0), 4, 6))
        self.does(hand, parcels + self.ASKS + offers, "again")
        self.does(hand, parcels + self.ASKS + offers, "again")

    def test_how_many_rows_it_knows_by_now(self):
        hand = with_most()
        hand.offer(0, 5)
        hand.offer(3, 6)
        parcels = hand.give(1, ((1, 1),))
        hand.hear(("known", 2, 0, 0, (5, 4)))
        self.does(hand, parcels + (("ask", 0, 1, (1, 0), 2), ("ask", 0, 2, (1, 0), 2),
                                   ("offer", 0, 1, (1, 0), 3, 6), ("offer", 0, 2, (1, 0), 3, 6)), "again")

    def test_offers_of_rows_that_more_has(self):
        hand = Hand(0, 2, 5, hold(0, 2))
        hand.ask(1)
        hand.offer(2, 6)
        self.has(hand, more=((2, 6),))
        self.does(hand, (("ask", 0, 1, (1, 0), 0), ("offer", 0, 1, (1, 0), 2, 6)), "again")

    def test_an_asking_that_was_late_and_its_offers(self):
        hand = with_most()
        hand.offer(0, 5)
        hand.hear(("ask", 2, 0, (5, 2), 0))
        self.does(hand, self.ASKS + (("offer", 0, 1, (1, 0), 0, 5), ("offer", 0, 2, (1, 0), 0, 5)), "again")
        hand.ask(3)
        self.does(hand, (("ask", 0, 1, (3, 0), 0), ("ask", 0, 2, (3, 0), 0)), "again")

    def test_only_the_last_asking(self):
        hand = trio()[0]
        hand.ask(1)
        hand.ask(4)
        self.does(hand, (("ask", 0, 1, (4, 0), 0), ("ask", 0, 2, (4, 0), 0)), "again")

    def test_behind_a_fall_only_its_parcels(self):
        hand = with_most()
        hand.offer(0, 5)
        parcels = hand.give(2, ((0, 0),))
        hand.fall()
        hand.rise()
        self.has(hand, offers=((0, 5),), number=1)
        self.does(hand, parcels, "again")
        hand.ask(2)
        self.does(hand, parcels + (("ask", 0, 1, (2, 0), 0), ("ask", 0, 2, (2, 0), 0)), "again")

    def test_of_a_hand_alone(self):
        hand = Hand(0, 1, 5, hold(0, 4))
        hand.ask(1)
        hand.offer(1, 5)
        self.does(hand, (), "again")

    def test_of_one_that_is_down(self):
        hand = trio()[2]
        hand.give(0, ((6, 6),))
        hand.fall()
        self.refused(hand, Fallen, 2, "again")


class FallAndRise(HandCase):
    LOST = {"gathered": DOWN, "counts": DOWN, "learns": DOWN, "late": DOWN}

    def test_a_fall_takes_the_mind_and_leaves_the_book(self):
        hand = with_most()
        hand.offer(0, 5)
        hand.give(1, ((0, 0),))
        hand.hear(("late", 1, 0, (1, 0), (3, 1)))
        hand.hear(("ask", 2, 0, (1, 2), 4))
        self.does(hand, (), "fall", **self.LOST)
        self.assertIsNone(hand.mind())
        self.does(hand, (), "rise", gathered=None, counts=(), learns=(0, 0, 0), late=NONE)

    def test_risen_it_knows_how_many_rows_it_knows_itself(self):
        hand = trio()[1]
        hand.hear(("known", 2, 1, 0, (4, 5)))
        self.has(hand, learns=(0, 2, 2))
        hand.fall()
        self.does(hand, (), "rise", gathered=None, counts=(), learns=(0, 2, 0), late=NONE)

    def test_of_a_new_hand(self):
        hand = Hand(0, 1, 5, hold(0, 4))
        self.does(hand, (), "fall", **self.LOST)
        self.does(hand, (), "rise", gathered=None, counts=(), learns=(0,), late=NONE)
        self.assertTrue(hand == Hand(0, 1, 5, hold(0, 4)))

    def test_refused(self):
        hand = trio()[2]
        self.refused(hand, Standing, 2, "rise")
        hand.fall()
        self.refused(hand, Fallen, 2, "fall")
        hand.rise()
        self.refused(hand, Standing, 2, "rise")

    def test_what_stands_goes_on_standing(self):
        hand = trio()[0]
        hand.hear(("offer", 1, 0, (2, 1), 0, 5))
        hand.fall()
        hand.rise()
        taken = hold(7, 7, (2, 1), (0, (2, 1), 5))
        self.does(hand, (("receipt", 0, 2, 1, 0), ("told", 0, 1, (2, 1), hold(7, 7, (2, 1)), 0, ()),
                         ("took", 0, 1, (2, 1), 0, ((7, 7),))), "hear", ("parcel", 2, 0, 0, hold(7, 7), 0, ()),
                  holding=hold(0, 2, (2, 1), (0, (2, 1), 5)) + taken, taken=(0, 0, 1),
                  log=((0, (2, 1), 5, ((0, 2), (7, 7))),))
