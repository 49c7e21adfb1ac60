from ridingvotes.errors import Fallen, NotMine
from ridingvotes.hands import Hand
from tests.hand_case import NONE, HandCase, hold, pair, trio
from tests.things import DEEPEST, FAR, LONG, ODD


def asked(points=9, number=1):
    """Hand 0 of three, of points 0 to 2; it has asked."""
    hand = Hand(0, 3, points, hold(0, 2))
    hand.ask(number)
    return hand


def offered(*rows):
    """Hand 0 of three, of points 0 to 2 of nine; by (1, 0) it was told of points 3 and 4, and offered these rows."""
    hand = asked()
    hand.hear(("told", 1, 0, (1, 0), hold(3, 4, (1, 0)), 0, ()))
    for row, word in rows:
        hand.offer(row, word)
    return hand


class Asking(HandCase):
    def test_of_a_greater_ballot(self):
        self.does(trio()[0], (("told", 0, 1, (1, 1), hold(0, 2, (1, 1)), 0, ()),), "hear", ("ask", 1, 0, (1, 1), 0),
                  heard=(1, 1), holding=hold(0, 2, (1, 1)))

    def test_of_the_ballot_heard(self):
        hand = trio()[0]
        hand.hear(("ask", 1, 0, (1, 1), 0))
        self.does(hand, (("told", 0, 1, (1, 1), hold(0, 2, (1, 1)), 0, ()),), "hear", ("ask", 1, 0, (1, 1), 0))

    def test_twice_with_something_standing(self):
        hand = trio()[0]
        hand.hear(("ask", 1, 0, (1, 1), 0))
        hand.hear(("offer", 1, 0, (1, 1), 0, 5))
        holding = hold(0, 2, (1, 1), (0, (1, 1), 5))
        self.does(hand, (("told", 0, 1, (1, 1), holding, 0, ()),), "hear", ("ask", 1, 0, (1, 1), 0))

    def test_a_greater_one_with_something_standing(self):
        hand = trio()[0]
        hand.hear(("offer", 1, 0, (1, 1), 0, 5))
        holding = hold(0, 2, (1, 2), (0, (1, 1), 5))
        self.does(hand, (("told", 0, 2, (1, 2), holding, 0, ()),), "hear", ("ask", 2, 0, (1, 2), 0),
                  heard=(1, 2), standing=(), holding=holding)

    def test_late(self):
        hand = trio()[0]
        hand.hear(("ask", 1, 0, (4, 1), 0))
        hand.hear(("offer", 1, 0, (4, 1), 0, 5))
        for ballot in ((3, 2), (1, 1), (3, 1)):
            self.does(hand, (("late", 0, ballot[1], ballot, (4, 1)),), "hear", ("ask", ballot[1], 0, ballot, 0))
        self.does(trio()[0], (("told", 0, 2, (1, 2), hold(0, 2, (1, 2)), 0, ()),), "hear", ("ask", 2, 0, (1, 2), 0),
                  heard=(1, 2), holding=hold(0, 2, (1, 2)))

    def test_late_behind_its_own_asking(self):
        hand = asked(number=3)
        self.does(hand, (("late", 0, 2, (2, 2), (3, 0)),), "hear", ("ask", 2, 0, (2, 2), 0))
        self.does(hand, (("told", 0, 1, (3, 1), hold(0, 2, (3, 1)), 0, ()),), "hear", ("ask", 1, 0, (3, 1), 0),
                  heard=(3, 1), holding=hold(0, 2, (3, 1)))

    def test_own_number_offers_and_what_was_gathered_stay(self):
        hand = offered((0, 5))
        holding = hold(0, 2, (2, 2), (0, (1, 0), 5))
        self.does(hand, (("told", 0, 2, (2, 2), holding, 0, ()),), "hear", ("ask", 2, 0, (2, 2), 0),
                  heard=(2, 2), standing=(), holding=holding)

    def test_points_that_promised_a_greater_ballot_are_not_told(self):
        hand = trio()[0]
        hand.hear(("parcel", 1, 0, 0, hold(3, 4, (9, 1)) + hold(5, 5, (2, 2)), 0, ()))
        self.does(hand, (("told", 0, 2, (2, 2), hold(0, 2, (2, 2)) + hold(5, 5, (2, 2)), 0, ()),),
                  "hear", ("ask", 2, 0, (2, 2), 0),
                  heard=(2, 2), holding=hold(0, 2, (2, 2)) + hold(3, 4, (9, 1)) + hold(5, 5, (2, 2)))

    def test_a_hand_without_points(self):
        self.does(Hand(1, 2, 5, ()), (("told", 1, 0, (2, 0), (), 0, ()),), "hear", ("ask", 0, 1, (2, 0), 0),
                  heard=(2, 0))

    def test_since_and_words(self):
        for knows, since, words in ((0, 0, (7, 8)), (1, 1, (8,)), (2, 2, ()), (5, 2, ()), (LONG, 2, ())):
            with self.subTest(knows):
                hand = trio()[0]
                hand.hear(("known", 2, 0, 0, (7, 8)))
                self.does(hand, (("told", 0, 1, (1, 1), hold(0, 2, (1, 1)), since, words),),
                          "hear", ("ask", 1, 0, (1, 1), knows),
                          heard=(1, 1), holding=hold(0, 2, (1, 1)), learns=(2, knows, 2))

    def test_since_by_the_letter_where_more_is_known_of_its_sender(self):
        hand = trio()[0]
        hand.hear(("known", 1, 0, 0, (7, 8)))
        self.does(hand, (("told", 0, 1, (1, 1), hold(0, 2, (1, 1)), 1, (8,)),), "hear", ("ask", 1, 0, (1, 1), 1),
                  heard=(1, 1), holding=hold(0, 2, (1, 1)))

    def test_rows_that_it_knows_beyond_a_gap_are_not_told(self):
        hand = Hand(0, 2, 5, hold(0, 2))
        hand.ask(1)
        hand.offer(1, 6)
        taken = hold(0, 2, (2, 1), (1, (1, 0), 6))
        self.does(hand, (("told", 0, 1, (2, 1), taken, 0, ()),), "hear", ("ask", 1, 0, (2, 1), 0),
                  heard=(2, 1), standing=(), holding=taken)

    def test_late_and_learns(self):
        hand = asked(number=5)
        self.does(hand, (("late", 0, 1, (2, 1), (5, 0)),), "hear", ("ask", 1, 0, (2, 1), 3), learns=(0, 3, 0))

    def test_great_runs(self):
        hand = Hand(0, 2, FAR, hold(0, LONG) + hold(LONG + 1, 2 * LONG, (1, 1)))
        self.does(hand, (("told", 0, 1, (1, 1), hold(0, 2 * LONG, (1, 1)), 0, ()),), "hear", ("ask", 1, 0, (1, 1), 0),
                  heard=(1, 1), holding=hold(0, 2 * LONG, (1, 1)))


class Telling(HandCase):
    def test_gathered(self):
        hand = asked()
        self.does(hand, (), "hear", ("told", 1, 0, (1, 0), hold(5, 5, (1, 0)), 0, ()),
                  gathered=hold(0, 2, (1, 0)) + hold(5, 5, (1, 0)))
        self.does(hand, (), "hear", ("told", 2, 0, (1, 0), hold(3, 4, (1, 0)), 0, ()), gathered=hold(0, 5, (1, 0)))

    def test_twice(self):
        hand = asked()
        hand.hear(("told", 1, 0, (1, 0), hold(4, 5, (1, 0)), 0, ()))
        self.does(hand, (), "hear", ("told", 1, 0, (1, 0), hold(4, 5, (1, 0)), 0, ()))

    def test_of_points_told_ahead_the_later_slips(self):
        ahead = hold(3, 4, (3, 0), (0, (2, 1), 5))
        hand = asked(number=3)
        hand.hear(("told", 1, 0, (3, 0), ahead, 0, ()))
        hand.offer(0, 9)
        self.has(hand, offers=((0, 5),))
        behind = hold(4, 6, (3, 0), (0, (3, 0), 5))
        self.does(hand, (), "hear", ("told", 2, 0, (3, 0), behind, 0, ()),
                  gathered=hold(0, 2, (3, 0)) + hold(3, 3, (3, 0), (0, (2, 1), 5)) + behind)
        # The one that was told first comes once more.
        self.does(hand, (), "hear", ("told", 1, 0, (3, 0), ahead, 0, ()))

    def test_of_an_older_asking(self):
        hand = asked()
        hand.ask(2)
        self.does(hand, (), "hear", ("told", 1, 0, (1, 0), hold(4, 5, (1, 0)), 0, ()))

    def test_where_it_has_not_asked_since_it_rose(self):
        hand = asked()
        hand.fall()
        hand.rise()
        self.does(hand, (), "hear", ("told", 1, 0, (1, 0), hold(4, 5, (1, 0)), 0, ()))
        hand.ask(2)
        self.does(hand, (), "hear", ("told", 1, 0, (1, 0), hold(4, 5, (1, 0)), 0, ()))
        self.does(hand, (), "hear", ("told", 1, 0, (2, 0), hold(4, 5, (2, 0)), 0, ()),
                  gathered=hold(0, 2, (2, 0)) + hold(4, 5, (2, 0)))

    def test_where_it_heard_a_greater_ballot(self):
        hand = asked()
        hand.hear(("ask", 2, 0, (5, 2), 0))
        self.does(hand, (), "hear", ("told", 1, 0, (1, 0), hold(3, 4, (1, 0)), 0, ()), gathered=hold(0, 4, (1, 0)))
        hand.ask(3)
        self.does(hand, (), "hear", ("told", 1, 0, (3, 0), hold(3, 4, (3, 0)), 0, ()), gathered=hold(3, 4, (3, 0)))

    def test_of_no_points(self):
        self.does(asked(), (), "hear", ("told", 1, 0, (1, 0), (), 0, ()))

    def test_words_are_learnt_and_slips_are_at_the_floor(self):
        hand = asked(number=3)
        hand.hear(("told", 1, 0, (3, 0), hold(3, 3, (3, 0), (0, (2, 1), 5), (1, (2, 1), 6)), 0, ()))
        self.does(hand, (), "hear", ("told", 2, 0, (3, 0), hold(6, 6, (3, 0), (1, (2, 1), 6)), 0, (5,)),
                  gathered=hold(0, 2, (3, 0)) + hold(3, 3, (3, 0), (1, (2, 1), 6)) + hold(6, 6, (3, 0), (1, (2, 1), 6)),
                  known=(5,), learns=(1, 0, 1))
        # Late, and with what it took of a row that is known by now.
        self.does(hand, (), "hear", ("told", 1, 0, (3, 0), hold(4, 4, (3, 0), (0, (2, 1), 5), (1, (2, 1), 6)), 0, ()),
                  gathered=hold(0, 2, (3, 0)) + hold(3, 4, (3, 0), (1, (2, 1), 6)) + hold(6, 6, (3, 0), (1, (2, 1), 6)))

    def test_words_of_an_older_asking_are_learnt(self):
        hand = asked()
        hand.ask(2)
        self.does(hand, (), "hear", ("told", 1, 0, (1, 0), hold(4, 5, (1, 0)), 0, (5, 6)),
                  known=(5, 6), learns=(2, 2, 0))

    def test_gathered_and_taken_at_the_floor_leave_runs_that_are_one(self):
        hand = asked(number=3)
        hand.hear(("told", 1, 0, (3, 0), hold(3, 3, (3, 0), (0, (2, 1), 5)), 0, ()))
        self.does(hand, (), "hear", ("told", 2, 0, (3, 0), hold(4, 4, (3, 0)), 0, (5,)),
                  gathered=hold(0, 4, (3, 0)), known=(5,), learns=(1, 0, 1))

    def test_two_hundred_runs(self):
        hand = Hand(0, 2, FAR, hold(0, 2))
        hand.ask(3)
        taken = (((0, (2, 1), 5),), ())
        runs = tuple((10 ** 9 * at, 10 ** 9 * (at + 1) - 1, ((3, 0), taken[at % 2])) for at in range(1, 200))
        self.does(hand, (), "hear", ("told", 1, 0, (3, 0), runs, 0, ()), gathered=hold(0, 2, (3, 0)) + runs)


class Offering(HandCase):
    def test_by_a_greater_ballot(self):
        self.does(trio()[0], (("took", 0, 1, (1, 1), 0, ((0, 2),)),), "hear", ("offer", 1, 0, (1, 1), 0, 5),
                  heard=(1, 1), standing=((0, 5),), holding=hold(0, 2, (1, 1), (0, (1, 1), 5)),
                  log=((0, (1, 1), 5, ((0, 2),)),))

    def test_by_the_ballot_heard(self):
        hand = trio()[0]
        hand.hear(("ask", 1, 0, (1, 1), 0))
        self.does(hand, (("took", 0, 1, (1, 1), 3, ((0, 2),)),), "hear", ("offer", 1, 0, (1, 1), 3, 5),
                  standing=((3, 5),), holding=hold(0, 2, (1, 1), (3, (1, 1), 5)), log=((3, (1, 1), 5, ((0, 2),)),))
        self.does(hand, (("took", 0, 1, (1, 1), 0, ((0, 2),)),), "hear", ("offer", 1, 0, (1, 1), 0, 6),
                  standing=((0, 6), (3, 5)), holding=hold(0, 2, (1, 1), (0, (1, 1), 6), (3, (1, 1), 5)),
                  log=((0, (1, 1), 6, ((0, 2),)), (3, (1, 1), 5, ((0, 2),))))

    def test_twice(self):
        hand = trio()[0]
        hand.hear(("offer", 1, 0, (1, 1), 0, 5))
        self.does(hand, (("took", 0, 1, (1, 1), 0, ((0, 2),)),), "hear", ("offer", 1, 0, (1, 1), 0, 5))

    def test_twice_points_being_given_between(self):
        hand = trio()[0]
        hand.hear(("offer", 1, 0, (1, 1), 0, 5))
        hand.give(2, ((0, 1),))
        self.does(hand, (("took", 0, 1, (1, 1), 0, ((2, 2),)),), "hear", ("offer", 1, 0, (1, 1), 0, 5))
        self.has(hand, log=((0, (1, 1), 5, ((0, 2),)),))

    def test_by_a_greater_one_with_something_standing(self):
        hand = trio()[0]
        hand.hear(("offer", 1, 0, (1, 1), 0, 5))
        hand.hear(("offer", 1, 0, (1, 1), 2, 4))
        self.does(hand, (("took", 0, 2, (2, 2), 0, ((0, 2),)),), "hear", ("offer", 2, 0, (2, 2), 0, 6),
                  heard=(2, 2), standing=((0, 6),), holding=hold(0, 2, (2, 2), (0, (2, 2), 6), (2, (1, 1), 4)),
                  log=((0, (1, 1), 5, ((0, 2),)), (0, (2, 2), 6, ((0, 2),)), (2, (1, 1), 4, ((0, 2),))))

    def test_late(self):
        hand = trio()[0]
        hand.hear(("ask", 1, 0, (4, 1), 0))
        self.does(hand, (("late", 0, 2, (3, 2), (4, 1)),), "hear", ("offer", 2, 0, (3, 2), 0, 5))
        self.does(hand, (("late", 0, 1, (3, 1), (4, 1)),), "hear", ("offer", 1, 0, (3, 1), 0, 5))
        hand = asked(number=4)
        self.does(hand, (("late", 0, 2, (3, 2), (4, 0)),), "hear", ("offer", 2, 0, (3, 2), 0, 5))

    def test_late_of_a_row_that_it_knows(self):
        hand = trio()[0]
        hand.hear(("known", 2, 0, 0, (5,)))
        hand.hear(("ask", 1, 0, (4, 1), 0))
        self.does(hand, (("late", 0, 2, (3, 2), (4, 1)),), "hear", ("offer", 2, 0, (3, 2), 0, 5))

    def test_a_row_that_it_knows(self):
        hand = trio()[0]
        hand.hear(("known", 2, 0, 0, (5, 6)))
        hand.hear(("offer", 1, 0, (1, 1), 3, 9))
        self.does(hand, (("known", 0, 1, 0, (5, 6)),), "hear", ("offer", 1, 0, (1, 1), 1, 6))
        # By a greater ballot: nothing is standing any more, but no point promises.
        self.does(hand, (("known", 0, 2, 2, ()),), "hear", ("offer", 2, 0, (1, 2), 0, 5), heard=(1, 2), standing=())

    def test_a_row_that_it_knows_and_what_the_other_is_known_to_know(self):
        hand = trio()[0]
        hand.hear(("known", 2, 0, 0, (5, 6, 7)))
        hand.hear(("ask", 1, 0, (1, 1), 1))
        self.does(hand, (("known", 0, 1, 1, (6, 7)),), "hear", ("offer", 1, 0, (1, 1), 1, 6))

    def test_a_row_that_it_knows_beyond_a_gap_is_taken(self):
        hand = Hand(0, 2, 5, hold(0, 2))
        hand.ask(1)
        hand.offer(1, 6)
        self.does(hand, (("took", 0, 1, (2, 1), 1, ((0, 2),)),), "hear", ("offer", 1, 0, (2, 1), 1, 6),
                  heard=(2, 1), standing=((1, 6),), holding=hold(0, 2, (2, 1), (1, (2, 1), 6)),
                  log=((1, (1, 0), 6, ((0, 2),)), (1, (2, 1), 6, ((0, 2),))))

    def test_points_that_promised_a_greater_ballot(self):
        hand = trio()[0]
        hand.hear(("parcel", 2, 0, 0, hold(6, 7, (3, 2)) + hold(8, 8, (3, 2), (0, (1, 1), 5)), 0, ()))
        holding = hold(0, 2, (1, 1), (0, (1, 1), 5)) + hold(6, 7, (3, 2)) + hold(8, 8, (3, 2), (0, (1, 1), 5))
        self.does(hand, (("took", 0, 1, (1, 1), 0, ((0, 2), (8, 8))),), "hear", ("offer", 1, 0, (1, 1), 0, 5),
                  heard=(1, 1), standing=((0, 5),), holding=holding, log=((0, (1, 1), 5, ((0, 2), (8, 8))),))

    def test_no_point_takes(self):
        self.does(Hand(0, 2, 5, ()), (("took", 0, 1, (1, 1), 0, ()),), "hear", ("offer", 1, 0, (1, 1), 0, 5),
                  heard=(1, 1), standing=((0, 5),))
        hand = Hand(0, 3, 5, hold(0, 1, (3, 2)))
        self.does(hand, (("took", 0, 1, (1, 1), 0, ()),), "hear", ("offer", 1, 0, (1, 1), 0, 5),
                  heard=(1, 1), standing=((0, 5),))

    def test_its_own_asking_stays(self):
        hand = offered((0, 5))
        holding = hold(0, 2, (2, 2), (0, (1, 0), 5), (1, (2, 2), 8))
        self.does(hand, (("took", 0, 2, (2, 2), 1, ((0, 2),)),), "hear", ("offer", 2, 0, (2, 2), 1, 8),
                  heard=(2, 2), standing=((1, 8),), holding=holding,
                  log=((0, (1, 0), 5, ((0, 2),)), (1, (2, 2), 8, ((0, 2),))))


class Knowing(HandCase):
    def test_the_next_words(self):
        hand = trio()[0]
        self.does(hand, (), "hear", ("known", 1, 0, 0, (5, 6)), known=(5, 6), learns=(2, 2, 0))
        self.does(hand, (), "hear", ("known", 2, 0, 2, (7,)), known=(5, 6, 7), learns=(3, 2, 3))

    def test_some_known_ahead(self):
        hand = trio()[0]
        hand.hear(("known", 1, 0, 0, (5, 6)))
        self.does(hand, (), "hear", ("known", 2, 0, 0, (5, 6, 7, 8)), known=(5, 6, 7, 8), learns=(4, 2, 4))
        self.does(hand, (), "hear", ("known", 1, 0, 2, (7, 8, 9)), known=(5, 6, 7, 8, 9), learns=(5, 5, 4))
        self.does(hand, (), "hear", ("known", 1, 0, 4, (9, 4)), known=(5, 6, 7, 8, 9, 4), learns=(6, 6, 4))

    def test_nothing_new(self):
        hand = trio()[0]
        hand.hear(("known", 1, 0, 0, (5, 6)))
        self.does(hand, (), "hear", ("known", 1, 0, 0, (5, 6)))
        self.does(hand, (), "hear", ("known", 1, 0, 0, (5,)))
        self.does(hand, (), "hear", ("known", 1, 0, 1, (6,)))
        self.does(hand, (), "hear", ("known", 1, 0, 1, ()))
        self.does(hand, (), "hear", ("known", 2, 0, 2, ()), learns=(2, 2, 2))

    def test_since_above_how_many_rows_it_knows(self):
        hand = trio()[0]
        self.does(hand, (), "hear", ("known", 1, 0, 1, (6, 7)), learns=(0, 3, 0))
        hand.hear(("known", 2, 0, 0, (5,)))
        self.does(hand, (), "hear", ("known", 1, 0, 3, (8, 9, 4, 3)), learns=(1, 7, 1))
        self.does(hand, (), "hear", ("known", 1, 0, 1, (6, 7)), known=(5, 6, 7), learns=(3, 7, 1))

    def test_what_more_has_follows(self):
        for words, known, more in (((4,), (4, 5), ((3, 6), (4, 7))), ((4, 5), (4, 5), ((3, 6), (4, 7))),
                                   ((4, 5, 8), (4, 5, 8, 6, 7), ()), ((4, 5, 8, 6), (4, 5, 8, 6, 7), ()),
                                   ((4, 5, 8, 6, 7, 9), (4, 5, 8, 6, 7, 9), ())):
            with self.subTest(words):
                hand = Hand(0, 2, 5, hold(0, 2))
                hand.ask(1)
                for row, word in ((1, 5), (3, 6), (4, 7)):
                    hand.offer(row, word)
                rows = dict(more)
                self.does(hand, (), "hear", ("known", 1, 0, 0, words),
                          known=known, more=more, standing=more, offers=more, learns=(len(known), len(words)),
                          counts=tuple((row, ((0, 2),)) for row in rows),
                          holding=hold(0, 2, (1, 0), *((row, (1, 0), word) for row, word in more)))

    def test_what_falls_out(self):
        hand = asked(number=2)
        hand.hear(("told", 1, 0, (2, 0), hold(3, 4, (2, 0), (0, (1, 1), 4), (1, (1, 1), 5), (2, (1, 1), 6)), 0, ()))
        for row in (0, 1, 2, 3):
            hand.offer(row, 7)
        self.has(hand, offers=((0, 4), (1, 5), (2, 6), (3, 7)), standing=((0, 4), (1, 5), (2, 6), (3, 7)))
        log = tuple((row, (2, 0), word, ((0, 2),)) for row, word in enumerate((4, 5, 6, 7)))
        self.has(hand, log=log)
        self.does(hand, (), "hear", ("known", 2, 0, 0, (4, 5)),
                  known=(4, 5), learns=(2, 0, 2), offers=((2, 6), (3, 7)), standing=((2, 6), (3, 7)),
                  counts=((2, ((0, 2),)), (3, ((0, 2),))), holding=hold(0, 2, (2, 0), (2, (2, 0), 6), (3, (2, 0), 7)),
                  gathered=hold(0, 2, (2, 0)) + hold(3, 4, (2, 0), (2, (1, 1), 6)))

    def test_standing_of_another_hand_falls_out(self):
        hand = trio()[0]
        hand.hear(("offer", 1, 0, (1, 1), 0, 5))
        hand.hear(("offer", 1, 0, (1, 1), 1, 6))
        self.does(hand, (), "hear", ("known", 1, 0, 0, (5,)), known=(5,), learns=(1, 1, 0), standing=((1, 6),),
                  holding=hold(0, 2, (1, 1), (1, (1, 1), 6)))

    def test_runs_that_become_alike_are_one(self):
        hand = trio()[0]
        hand.hear(("offer", 1, 0, (1, 1), 0, 5))
        hand.hear(("parcel", 2, 0, 0, hold(3, 4, (1, 1)), 0, ()))
        hand.hear(("parcel", 2, 0, 1, hold(5, 5, (2, 1)), 0, ()))
        self.has(hand, holding=hold(0, 4, (1, 1), (0, (1, 1), 5)) + hold(5, 5, (2, 1)))
        hand.give(1, ((0, 1),))
        hand.hear(("ask", 1, 0, (2, 1), 0))
        self.has(hand, holding=hold(2, 4, (2, 1), (0, (1, 1), 5)) + hold(5, 5, (2, 1)))
        self.does(hand, (), "hear", ("known", 1, 0, 0, (5,)), known=(5,), learns=(1, 1, 0), holding=hold(2, 5, (2, 1)))

    def test_parcels_stay_as_they_were_given(self):
        hand = trio()[0]
        hand.hear(("offer", 1, 0, (1, 1), 0, 5))
        hand.give(2, ((0, 2),))
        self.does(hand, (), "hear", ("known", 1, 0, 0, (5,)), known=(5,), learns=(1, 1, 0), standing=())
        self.has(hand, outbox=((2, 0, hold(0, 2, (1, 1), (0, (1, 1), 5)), 0, ()),))


class Taking(HandCase):
    def test_counted(self):
        hand = offered((0, 5))
        self.does(hand, (), "hear", ("took", 1, 0, (1, 0), 0, ((3, 3),)), counts=((0, ((0, 3),)),))

    def test_twice(self):
        hand = offered((0, 5))
        hand.hear(("took", 1, 0, (1, 0), 0, ((3, 3),)))
        self.does(hand, (), "hear", ("took", 1, 0, (1, 0), 0, ((3, 3),)))

    def test_of_points_counted_ahead(self):
        hand = offered((0, 5))
        hand.hear(("took", 1, 0, (1, 0), 0, ((3, 3),)))
        self.does(hand, (), "hear", ("took", 2, 0, (1, 0), 0, ((2, 3),)))

    def test_of_no_points(self):
        hand = offered((0, 5))
        self.does(hand, (), "hear", ("took", 1, 0, (1, 0), 0, ()))

    def test_of_no_points_where_nothing_was_counted(self):
        """It heard a greater ballot ahead of its offer, so that it counted nothing of its own."""
        hand = offered()
        hand.hear(("ask", 2, 0, (4, 2), 0))
        hand.offer(0, 5)
        self.has(hand, counts=())
        self.does(hand, (), "hear", ("took", 1, 0, (1, 0), 0, ()), counts=((0, ()),))
        self.does(hand, (), "hear", ("took", 1, 0, (1, 0), 0, ((4, 4),)), counts=((0, ((4, 4),)),))

    def test_chosen_by_more_than_half(self):
        hand = offered((0, 5))
        hand.hear(("took", 1, 0, (1, 0), 0, ((3, 3),)))
        self.does(hand, (("known", 0, 1, 0, (5,)), ("known", 0, 2, 0, (5,))), "hear",
                  ("took", 2, 0, (1, 0), 0, ((6, 6),)),
                  known=(5,), learns=(1, 0, 0), standing=(), offers=(), counts=(), holding=hold(0, 2, (1, 0)))

    def test_at_just_half(self):
        hand = pair(4, 4)[0]
        hand.ask(1)
        hand.hear(("told", 1, 0, (1, 0), hold(4, 7, (1, 0)), 0, ()))
        hand.offer(0, 5)
        self.does(hand, (), "hear", ("took", 1, 0, (1, 0), 0, ()))
        self.does(hand, (("known", 0, 1, 0, (5,)),), "hear", ("took", 1, 0, (1, 0), 0, ((7, 7),)),
                  known=(5,), learns=(1, 0), standing=(), offers=(), counts=(), holding=hold(0, 3, (1, 0)))

    def test_beyond_a_gap(self):
        hand = offered((0, 5), (1, 6), (2, 7))
        taken = ((0, (1, 0), 5), (1, (1, 0), 6), (2, (1, 0), 7))
        self.does(hand, (), "hear", ("took", 1, 0, (1, 0), 1, ((3, 5),)),
                  more=((1, 6),), counts=((0, ((0, 2),)), (1, ((0, 5),)), (2, ((0, 2),))))
        # More has the row: nothing more is counted.
        self.does(hand, (), "hear", ("took", 2, 0, (1, 0), 1, ((6, 8),)))
        self.has(hand, holding=hold(0, 2, (1, 0), *taken))
        self.does(hand, (("known", 0, 1, 0, (5, 6)), ("known", 0, 2, 0, (5, 6))), "hear",
                  ("took", 1, 0, (1, 0), 0, ((3, 4),)),
                  known=(5, 6), more=(), learns=(2, 0, 0), standing=((2, 7),), offers=((2, 7),),
                  counts=((2, ((0, 2),)),), holding=hold(0, 2, (1, 0), taken[2]))

    def test_behind_its_being_known(self):
        hand = offered((0, 5), (1, 6))
        hand.hear(("took", 1, 0, (1, 0), 0, ((3, 4),)))
        self.has(hand, known=(5,))
        self.does(hand, (), "hear", ("took", 2, 0, (1, 0), 0, ((6, 8),)))

    def test_of_an_older_asking(self):
        hand = offered((0, 5))
        hand.ask(2)
        self.does(hand, (), "hear", ("took", 1, 0, (1, 0), 0, ((3, 4),)))
        hand.hear(("told", 1, 0, (2, 0), hold(3, 4, (2, 0)), 0, ()))
        hand.offer(0, 9)
        self.has(hand, offers=((0, 5),), counts=((0, ((0, 2),)),))
        self.does(hand, (), "hear", ("took", 1, 0, (1, 0), 0, ((3, 4),)))

    def test_behind_a_fall(self):
        hand = offered((0, 5))
        hand.fall()
        hand.rise()
        self.has(hand, offers=((0, 5),))
        self.does(hand, (), "hear", ("took", 1, 0, (1, 0), 0, ((3, 4),)))

    def test_where_it_heard_a_greater_ballot_since(self):
        hand = offered((0, 5))
        hand.hear(("ask", 2, 0, (4, 2), 0))
        self.does(hand, (("known", 0, 1, 0, (5,)), ("known", 0, 2, 0, (5,))), "hear",
                  ("took", 1, 0, (1, 0), 0, ((3, 4),)),
                  known=(5,), learns=(1, 0, 0), offers=(), counts=(), holding=hold(0, 2, (4, 2)))

    def test_to_whom_what_is_known_is_sent(self):
        hand = Hand(0, 5, 9, hold(0, 2))
        hand.hear(("ask", 1, 0, (1, 1), 1))
        hand.hear(("ask", 2, 0, (1, 2), 2))
        hand.hear(("ask", 3, 0, (1, 3), 3))
        hand.hear(("known", 4, 0, 0, (4,)))
        hand.ask(2)
        hand.hear(("told", 1, 0, (2, 0), hold(3, 4, (2, 0)), 1, ()))
        hand.offer(1, 5)
        self.has(hand, learns=(1, 1, 2, 3, 1))
        self.does(hand, (("known", 0, 1, 1, (5,)), ("known", 0, 4, 1, (5,))), "hear",
                  ("took", 1, 0, (2, 0), 1, ((3, 4),)),
                  known=(4, 5), learns=(2, 1, 2, 3, 1), standing=(), offers=(), counts=(), holding=hold(0, 2, (2, 0)))


class Parcels(HandCase):
    def test_where_nothing_was_heard(self):
        part = hold(3, 4) + hold(6, 6, (9, 2), (0, (1, 1), 5))
        self.does(trio()[0], (("receipt", 0, 1, 1, 0),), "hear", ("parcel", 1, 0, 0, part, 0, ()),
                  holding=hold(0, 4) + part[1:], taken=(0, 1, 0))

    def test_in_turn(self):
        hand = Hand(2, 3, 9, ())
        self.does(hand, (("receipt", 2, 0, 1, 0),), "hear", ("parcel", 0, 2, 0, hold(0, 0), 0, ()),
                  holding=hold(0, 0), taken=(1, 0, 0))
        self.does(hand, (("receipt", 2, 0, 2, 0),), "hear", ("parcel", 0, 2, 1, hold(1, 1), 0, ()),
                  holding=hold(0, 1), taken=(2, 0, 0))
        self.does(hand, (("receipt", 2, 1, 1, 0),), "hear", ("parcel", 1, 2, 0, hold(4, 5), 0, ()),
                  holding=hold(0, 1) + hold(4, 5), taken=(2, 1, 0))

    def test_twice(self):
        hand = Hand(2, 3, 9, ())
        for number in (0, 1):
            hand.hear(("parcel", 0, 2, number, hold(number, number), 0, ()))
        for number in (0, 1):
            self.does(hand, (("receipt", 2, 0, 2, 0),), "hear", ("parcel", 0, 2, number, hold(number, number), 0, ()))
        # Also where the points have gone on, and something was heard.
        hand.give(1, ((0, 0),))
        hand.hear(("offer", 1, 2, (1, 1), 0, 5))
        self.does(hand, (("receipt", 2, 0, 2, 0),), "hear", ("parcel", 0, 2, 0, hold(0, 0), 0, ()))

    def test_twice_how_many_rows_it_knows(self):
        hand = Hand(2, 3, 9, ())
        hand.hear(("parcel", 0, 2, 0, hold(0, 0), 0, ()))
        hand.hear(("known", 1, 2, 0, (5, 6, 7)))
        self.does(hand, (("receipt", 2, 0, 1, 3),), "hear", ("parcel", 0, 2, 0, hold(0, 0), 0, ()))

    def test_twice_its_words_are_not_learnt(self):
        """What it bore was learnt when it came first, so that only what its sender knows may be new, behind a fall."""
        hand = Hand(2, 3, 9, ())
        hand.hear(("parcel", 0, 2, 0, hold(0, 0), 0, (5,)))
        hand.fall()
        hand.rise()
        self.has(hand, learns=(0, 0, 1))
        self.does(hand, (("receipt", 2, 0, 1, 1),), "hear", ("parcel", 0, 2, 0, hold(0, 0), 0, (5,)), learns=(1, 0, 1))

    def test_too_early(self):
        hand = Hand(2, 3, 9, ())
        self.does(hand, (), "hear", ("parcel", 0, 2, 1, hold(0, 0), 0, ()))
        self.does(hand, (), "hear", ("parcel", 0, 2, 2, hold(0, 0), 0, (5, 6)), learns=(2, 0, 0))
        hand.hear(("parcel", 1, 2, 0, hold(4, 4), 0, ()))
        self.does(hand, (), "hear", ("parcel", 0, 2, 1, hold(0, 0), 0, ()))
        self.does(hand, (("receipt", 2, 0, 1, 0),), "hear", ("parcel", 0, 2, 0, hold(1, 1), 0, ()),
                  holding=hold(1, 1) + hold(4, 4), taken=(1, 1, 0))
        self.does(hand, (("receipt", 2, 0, 2, 0),), "hear", ("parcel", 0, 2, 1, hold(0, 0), 0, ()),
                  holding=hold(0, 1) + hold(4, 4), taken=(2, 1, 0))

    def test_words_are_learnt_and_points_are_at_the_floor(self):
        hand = trio()[0]
        hand.hear(("known", 2, 0, 0, (5,)))
        part = hold(3, 4, (2, 1), (1, (2, 1), 6), (2, (2, 1), 7))
        self.does(hand, (("receipt", 0, 1, 1, 2),), "hear", ("parcel", 1, 0, 0, part, 0, (5, 6)),
                  known=(5, 6), learns=(2, 2, 1), holding=hold(0, 2) + hold(3, 4, (2, 1), (2, (2, 1), 7)),
                  taken=(0, 1, 0))
        self.does(hand, (("receipt", 0, 2, 1, 2),), "hear",
                  ("parcel", 2, 0, 0, hold(5, 5, (2, 1), (0, (2, 1), 5), (1, (2, 1), 6)), 0, ()),
                  holding=hold(0, 2) + hold(3, 4, (2, 1), (2, (2, 1), 7)) + hold(5, 5, (2, 1)), taken=(0, 1, 1))

    def test_words_learnt_make_more_follow(self):
        hand = Hand(0, 2, 5, hold(0, 2))
        hand.ask(1)
        hand.offer(1, 6)
        self.does(hand, (("receipt", 0, 1, 1, 2),), "hear", ("parcel", 1, 0, 0, hold(3, 3), 0, (5,)),
                  known=(5, 6), more=(), standing=(), offers=(), counts=(), learns=(2, 1), holding=hold(0, 3, (1, 0)),
                  gathered=hold(0, 3, (1, 0)), taken=(0, 1))

    def test_what_promised_less_promises_heard(self):
        hand = trio()[0]
        hand.hear(("ask", 2, 0, (3, 2), 0))
        part = hold(3, 3) + hold(4, 4, (2, 1)) + hold(5, 5, (3, 2)) + hold(7, 7, (4, 1))
        told = hold(3, 5, (3, 2))
        self.does(hand, (("receipt", 0, 1, 1, 0), ("told", 0, 2, (3, 2), told, 0, ())), "hear",
                  ("parcel", 1, 0, 0, part, 0, ()), holding=hold(0, 5, (3, 2)) + hold(7, 7, (4, 1)), taken=(0, 1, 0))

    def test_none_has_promised_just_heard(self):
        hand = trio()[0]
        hand.hear(("ask", 2, 0, (3, 2), 0))
        self.does(hand, (("receipt", 0, 1, 1, 0),), "hear", ("parcel", 1, 0, 0, hold(3, 4, (4, 1)), 0, ()),
                  holding=hold(0, 2, (3, 2)) + hold(3, 4, (4, 1)), taken=(0, 1, 0))

    def test_the_telling_goes_to_its_giver_too(self):
        hand = trio()[0]
        hand.hear(("ask", 1, 0, (3, 1), 0))
        self.does(hand, (("receipt", 0, 1, 1, 0), ("told", 0, 1, (3, 1), hold(3, 4, (3, 1)), 0, ())), "hear",
                  ("parcel", 1, 0, 0, hold(3, 4, (3, 1)), 0, ()), holding=hold(0, 4, (3, 1)), taken=(0, 1, 0))

    def test_the_telling_bears_what_is_known(self):
        hand = trio()[0]
        hand.hear(("ask", 2, 0, (3, 2), 1))
        self.does(hand, (("receipt", 0, 1, 1, 3), ("told", 0, 2, (3, 2), hold(3, 3, (3, 2)), 1, (6, 7))), "hear",
                  ("parcel", 1, 0, 0, hold(3, 3), 0, (5, 6, 7)),
                  known=(5, 6, 7), learns=(3, 3, 1), holding=hold(0, 3, (3, 2)), taken=(0, 1, 0))
        hand.fall()
        hand.rise()
        self.does(hand, (("receipt", 0, 1, 2, 3), ("told", 0, 2, (3, 2), hold(4, 4, (3, 2)), 0, (5, 6, 7))), "hear",
                  ("parcel", 1, 0, 1, hold(4, 4), 3, ()),
                  learns=(3, 3, 0), holding=hold(0, 4, (3, 2)), taken=(0, 2, 0))

    def test_something_is_standing(self):
        hand = trio()[0]
        hand.hear(("offer", 2, 0, (3, 2), 4, 8))
        hand.hear(("offer", 2, 0, (3, 2), 1, 7))
        taken = ((1, (3, 2), 7), (4, (3, 2), 8))
        part = hold(3, 3, (2, 1), (0, (2, 1), 5), (1, (2, 1), 6)) + hold(5, 5, (3, 2), taken[1])
        told = hold(3, 3, (3, 2), (0, (2, 1), 5), (1, (2, 1), 6)) + hold(5, 5, (3, 2), taken[1])
        letters = (("receipt", 0, 1, 1, 0), ("told", 0, 2, (3, 2), told, 0, ()),
                   ("took", 0, 2, (3, 2), 1, ((3, 3), (5, 5))), ("took", 0, 2, (3, 2), 4, ((3, 3), (5, 5))))
        self.does(hand, letters, "hear", ("parcel", 1, 0, 0, part, 0, ()),
                  holding=hold(0, 2, (3, 2), *taken) + hold(3, 3, (3, 2), (0, (2, 1), 5), *taken)
                  + hold(5, 5, (3, 2), *taken), taken=(0, 1, 0),
                  log=((1, (3, 2), 7, ((0, 3), (5, 5))), (4, (3, 2), 8, ((0, 3), (5, 5)))))

    def test_something_standing_is_known_by_what_it_bears(self):
        hand = trio()[0]
        hand.hear(("offer", 2, 0, (3, 2), 0, 7))
        hand.hear(("offer", 2, 0, (3, 2), 1, 8))
        letters = (("receipt", 0, 1, 1, 1), ("told", 0, 2, (3, 2), hold(3, 3, (3, 2)), 0, (7,)),
                   ("took", 0, 2, (3, 2), 1, ((3, 3),)))
        self.does(hand, letters, "hear", ("parcel", 1, 0, 0, hold(3, 3), 0, (7,)),
                  known=(7,), learns=(1, 1, 0), standing=((1, 8),), holding=hold(0, 3, (3, 2), (1, (3, 2), 8)),
                  taken=(0, 1, 0), log=((0, (3, 2), 7, ((0, 2),)), (1, (3, 2), 8, ((0, 3),))))

    def test_points_that_promised_more_take_nothing(self):
        hand = trio()[0]
        hand.hear(("offer", 2, 0, (3, 2), 0, 7))
        self.does(hand, (("receipt", 0, 1, 1, 0),), "hear", ("parcel", 1, 0, 0, hold(3, 4, (4, 1)), 0, ()),
                  holding=hold(0, 2, (3, 2), (0, (3, 2), 7)) + hold(3, 4, (4, 1)), taken=(0, 1, 0))

    def test_points_that_took_just_this_and_promised_more_since(self):
        hand = trio()[0]
        hand.hear(("offer", 2, 0, (3, 2), 0, 7))
        part = hold(3, 4, (4, 1), (0, (3, 2), 7))
        self.does(hand, (("receipt", 0, 1, 1, 0), ("took", 0, 2, (3, 2), 0, ((3, 4),))), "hear",
                  ("parcel", 1, 0, 0, part, 0, ()), holding=hold(0, 2, (3, 2), (0, (3, 2), 7)) + part, taken=(0, 1, 0),
                  log=((0, (3, 2), 7, ((0, 4),)),))

    def test_only_points_that_came_are_told_and_taken(self):
        hand = trio()[0]
        hand.hear(("offer", 2, 0, (3, 2), 0, 7))
        hand.give(1, ((0, 0),))
        part = hold(0, 0, (3, 2), (0, (3, 2), 7))
        self.does(hand, (("receipt", 0, 1, 1, 0), ("told", 0, 2, (3, 2), part, 0, ()),
                         ("took", 0, 2, (3, 2), 0, ((0, 0),))), "hear", ("parcel", 1, 0, 0, part, 0, ()),
                  holding=hold(0, 2, (3, 2), (0, (3, 2), 7)), taken=(0, 1, 0))

    def test_where_heard_is_its_own(self):
        hand = asked()
        self.does(hand, (("receipt", 0, 1, 1, 0),), "hear", ("parcel", 1, 0, 0, hold(4, 4) + hold(5, 5, (1, 2)), 0, ()),
                  holding=hold(0, 2, (1, 0)) + hold(4, 4, (1, 0)) + hold(5, 5, (1, 2)),
                  gathered=hold(0, 2, (1, 0)) + hold(4, 4, (1, 0)), taken=(0, 1, 0))

    def test_where_its_own_offers_stand(self):
        hand = offered((0, 5), (2, 6))
        taken = ((0, (1, 0), 5), (2, (1, 0), 6))
        self.does(hand, (("receipt", 0, 1, 1, 0),), "hear", ("parcel", 1, 0, 0, hold(3, 3), 0, ()),
                  holding=hold(0, 3, (1, 0), *taken), counts=((0, ((0, 3),)), (2, ((0, 3),))), taken=(0, 1, 0),
                  log=((0, (1, 0), 5, ((0, 3),)), (2, (1, 0), 6, ((0, 3),))))
        # One that promised a greater ballot since, having taken the one word.
        part = hold(4, 4, (3, 2), taken[0])
        letters = (("receipt", 0, 2, 1, 0), ("known", 0, 1, 0, (5,)), ("known", 0, 2, 0, (5,)))
        self.does(hand, letters, "hear", ("parcel", 2, 0, 0, part, 0, ()),
                  known=(5,), learns=(1, 0, 0), holding=hold(0, 3, (1, 0), taken[1]) + hold(4, 4, (3, 2)),
                  standing=((2, 6),), offers=((2, 6),), counts=((2, ((0, 3),)),), taken=(0, 1, 1),
                  log=((0, (1, 0), 5, ((0, 4),)), (2, (1, 0), 6, ((0, 3),))))

    def test_gathered_as_they_were_ahead_of_what_stands(self):
        hand = offered((0, 5))
        self.does(hand, (("receipt", 0, 1, 1, 0),), "hear", ("parcel", 1, 0, 0, hold(8, 8), 0, ()),
                  holding=hold(0, 2, (1, 0), (0, (1, 0), 5)) + hold(8, 8, (1, 0), (0, (1, 0), 5)),
                  gathered=hold(0, 4, (1, 0)) + hold(8, 8, (1, 0)), counts=((0, ((0, 2), (8, 8))),), taken=(0, 1, 0),
                  log=((0, (1, 0), 5, ((0, 2), (8, 8))),))

    def test_all_that_stands_is_taken_ahead_of_counting(self):
        hand = offered((0, 5), (1, 6), (3, 8))
        hand.hear(("took", 1, 0, (1, 0), 0, ((6, 6),)))
        hand.hear(("took", 1, 0, (1, 0), 3, ((6, 6),)))
        taken = ((0, (1, 0), 5), (1, (1, 0), 6), (3, (1, 0), 8))
        self.has(hand, holding=hold(0, 2, (1, 0), *taken))
        # Row 3 is chosen beyond a gap; of row 1 only four points are counted.
        letters = (("receipt", 0, 2, 1, 0), ("known", 0, 1, 0, (5,)), ("known", 0, 2, 0, (5,)))
        self.does(hand, letters, "hear", ("parcel", 2, 0, 0, hold(7, 7), 0, ()),
                  known=(5,), more=((3, 8),), learns=(1, 0, 0), standing=((1, 6), (3, 8)), offers=((1, 6), (3, 8)),
                  counts=((1, ((0, 2), (7, 7))), (3, ((0, 2), (6, 7)))), taken=(0, 0, 1),
                  holding=hold(0, 2, (1, 0), *taken[1:]) + hold(7, 7, (1, 0), *taken[1:]),
                  gathered=hold(0, 4, (1, 0)) + hold(7, 7, (1, 0)),
                  log=((0, (1, 0), 5, ((0, 2), (7, 7))), (1, (1, 0), 6, ((0, 2), (7, 7))),
                       (3, (1, 0), 8, ((0, 2), (7, 7)))))

    def test_two_rows_that_come_to_be_known(self):
        """Each row that is counted has its own letters, as it has where takings come as letters."""
        hand = offered((0, 5), (1, 6))
        hand.hear(("took", 1, 0, (1, 0), 0, ((6, 6),)))
        hand.hear(("took", 1, 0, (1, 0), 1, ((6, 6),)))
        letters = (("receipt", 0, 2, 1, 0), ("known", 0, 1, 0, (5,)), ("known", 0, 2, 0, (5,)),
                   ("known", 0, 1, 0, (5, 6)), ("known", 0, 2, 0, (5, 6)))
        self.does(hand, letters, "hear", ("parcel", 2, 0, 0, hold(3, 3), 0, ()),
                  known=(5, 6), learns=(2, 0, 0), standing=(), offers=(), counts=(), taken=(0, 0, 1),
                  holding=hold(0, 3, (1, 0)),
                  log=((0, (1, 0), 5, ((0, 3),)), (1, (1, 0), 6, ((0, 3),))))

    def test_the_receipt_tells_what_is_known_ahead_of_counting(self):
        hand = offered((0, 5), (1, 6))
        hand.hear(("took", 1, 0, (1, 0), 1, ((6, 6),)))
        letters = (("receipt", 0, 2, 1, 1), ("known", 0, 1, 0, (5, 6)), ("known", 0, 2, 1, (6,)))
        self.does(hand, letters, "hear", ("parcel", 2, 0, 0, hold(3, 3), 0, (5,)),
                  known=(5, 6), learns=(2, 0, 1), standing=(), offers=(), counts=(), taken=(0, 0, 1),
                  holding=hold(0, 3, (1, 0)), log=((0, (1, 0), 5, ((0, 2),)), (1, (1, 0), 6, ((0, 3),))))

    def test_where_it_heard_a_greater_ballot_than_its_own(self):
        hand = offered((0, 5))
        hand.hear(("offer", 2, 0, (4, 2), 1, 8))
        taken = (1, (4, 2), 8)
        self.does(hand, (("receipt", 0, 1, 1, 0), ("told", 0, 2, (4, 2), hold(6, 6, (4, 2)), 0, ()),
                         ("took", 0, 2, (4, 2), 1, ((6, 6),))), "hear", ("parcel", 1, 0, 0, hold(6, 6), 0, ()),
                  holding=hold(0, 2, (4, 2), (0, (1, 0), 5), taken) + hold(6, 6, (4, 2), taken), taken=(0, 1, 0),
                  log=((0, (1, 0), 5, ((0, 2),)), (1, (4, 2), 8, ((0, 2), (6, 6)))))

    def test_where_heard_is_its_own_behind_a_fall(self):
        hand = offered((0, 5))
        hand.hear(("took", 1, 0, (1, 0), 0, ((6, 6),)))
        hand.fall()
        hand.rise()
        self.does(hand, (("receipt", 0, 1, 1, 0),), "hear", ("parcel", 1, 0, 0, hold(3, 5), 0, ()),
                  holding=hold(0, 5, (1, 0), (0, (1, 0), 5)), taken=(0, 1, 0), log=((0, (1, 0), 5, ((0, 5),)),))

    def test_back_at_the_hand_that_gave_them(self):
        one, other = pair(4, 4)
        there = one.give(1, ((1, 3),))
        other.hear(there[0])
        back = other.give(0, ((2, 5),))
        self.does(one, (("receipt", 0, 1, 1, 0),), "hear", back[0],
                  holding=hold(0, 0) + hold(2, 5), taken=(0, 1))
        # Its own parcel has no receipt still.
        self.has(one, outbox=((1, 0, hold(1, 3), 0, ()),))

    def test_great_runs(self):
        hand = Hand(0, 2, FAR, hold(0, LONG - 1))
        hand.hear(("offer", 1, 0, (1, 1), 0, 5))
        taken = (0, (1, 1), 5)
        self.does(hand, (("receipt", 0, 1, 1, 0), ("told", 0, 1, (1, 1), hold(LONG, 3 * LONG, (1, 1)), 0, ()),
                         ("took", 0, 1, (1, 1), 0, ((LONG, 3 * LONG),))), "hear",
                  ("parcel", 1, 0, 0, hold(LONG, 2 * LONG) + hold(2 * LONG + 1, 3 * LONG, (1, 1)), 0, ()),
                  holding=hold(0, 3 * LONG, (1, 1), taken), taken=(0, 1), log=((0, (1, 1), 5, ((0, 3 * LONG),)),))


class ReceiptsAndLates(HandCase):
    def given(self):
        hand = Hand(1, 3, 9, hold(0, 8))
        parcels = []
        for to, point in ((0, 0), (2, 1), (0, 2), (2, 3), (0, 4)):
            hand.give(to, ((point, point),))
            parcels.append((to, sum(parcel[0] == to for parcel in parcels), hold(point, point), 0, ()))
        self.has(hand, outbox=tuple(parcels))
        return hand, parcels

    def test_receipts(self):
        for many, left in ((1, (1, 2, 3, 4)), (2, (1, 3, 4)), (3, (1, 3))):
            with self.subTest(many):
                hand, parcels = self.given()
                self.does(hand, (), "hear", ("receipt", 0, 1, many, 0), outbox=tuple(parcels[at] for at in left))
        hand, parcels = self.given()
        self.does(hand, (), "hear", ("receipt", 2, 1, 2, 0), outbox=tuple(parcels[at] for at in (0, 2, 4)))
        self.does(hand, (), "hear", ("receipt", 0, 1, 3, 0), outbox=())

    def test_a_receipt_that_comes_late_or_twice(self):
        hand, parcels = self.given()
        hand.hear(("receipt", 0, 1, 2, 0))
        self.does(hand, (), "hear", ("receipt", 0, 1, 2, 0))
        self.does(hand, (), "hear", ("receipt", 0, 1, 1, 0))
        self.has(hand, sent=(3, 0, 2))

    def test_what_a_receipt_tells_of_its_sender(self):
        hand, parcels = self.given()
        self.does(hand, (), "hear", ("receipt", 0, 1, 1, 4), outbox=tuple(parcels[1:]), learns=(4, 0, 0))
        self.does(hand, (), "hear", ("receipt", 0, 1, 1, 2))
        self.does(hand, (), "hear", ("receipt", 0, 1, 1, 5), learns=(5, 0, 0))

    def test_the_greatest_late(self):
        hand = asked(number=2)
        self.does(hand, (), "hear", ("late", 1, 0, (2, 0), (3, 1)), late=(3, 1))
        self.does(hand, (), "hear", ("late", 2, 0, (2, 0), (2, 2)))
        self.does(hand, (), "hear", ("late", 2, 0, (2, 0), (3, 2)), late=(3, 2))
        self.does(hand, (), "hear", ("late", 1, 0, (2, 0), (3, 1)))

    def test_late_of_an_older_asking_and_behind_a_fall(self):
        hand = asked(number=2)
        hand.ask(7)
        self.does(hand, (), "hear", ("late", 1, 0, (2, 0), (3, 1)), late=(3, 1))
        hand.fall()
        hand.rise()
        self.has(hand, late=NONE)
        self.does(hand, (), "hear", ("late", 1, 0, (2, 0), (3, 1)), late=(3, 1))


class Learns(HandCase):
    def test_of_each_letter_that_bears_it(self):
        for letter, rows in ((("ask", 2, 1, (1, 2), 3), 3), (("ask", 2, 1, (5, 2), 3), 3),
                             (("told", 2, 1, (2, 1), hold(6, 6, (2, 1)), 0, (5, 6)), 2),
                             (("told", 2, 1, (2, 1), (), 1, (6, 7, 8)), 4), (("known", 2, 1, 1, (6, 7)), 3),
                             (("known", 2, 1, 1, ()), 1), (("parcel", 2, 1, 0, hold(6, 6), 1, (6,)), 2),
                             (("parcel", 2, 1, 4, hold(6, 6), 1, (6,)), 2), (("receipt", 2, 1, 1, 7), 7),
                             (("offer", 2, 1, (5, 2), 4, 9), 0), (("offer", 2, 1, (1, 2), 4, 9), 0),
                             (("late", 2, 1, (2, 1), (9, 2)), 0)):
            with self.subTest(letter):
                hand = trio()[1]
                hand.hear(("known", 0, 1, 0, (5,)))
                hand.give(2, ((3, 3),))
                hand.ask(2)
                hand.hear(letter)
                learns = hand.mind()[2]
                self.assertEqual((learns[0], learns[2]), (1, rows))
                self.assertEqual(learns[1], len(hand.book()[6]))

    def test_the_greatest_number(self):
        hand = trio()[1]
        hand.ask(9)
        for knows, learnt in ((2, 2), (1, 2), (0, 2), (5, 5), (4, 5)):
            hand.hear(("ask", 2, 1, (1, 2), knows))
            self.has(hand, learns=(0, 0, learnt))


class Refused(HandCase):
    def letters(self, sender, taker):
        """One letter of each kind."""
        return (("ask", sender, taker, (9, sender), 0), ("told", sender, taker, (1, taker), (), 0, ()),
                ("offer", sender, taker, (9, sender), 0, 5), ("took", sender, taker, (1, taker), 0, ()),
                ("late", sender, taker, (1, taker), (9, sender)), ("known", sender, taker, 0, (5,)),
                ("parcel", sender, taker, 0, hold(8, 8), 0, ()), ("receipt", sender, taker, 1, 0))

    def test_letters_to_another(self):
        hand = trio()[1]
        hand.ask(1)
        for letter in self.letters(2, 0) + self.letters(0, 2) + self.letters(1, 0) + self.letters(0, 3):
            self.refused(hand, NotMine, letter, "hear", letter)

    def test_letters_from_none_of_the_hands(self):
        hand = trio()[1]
        hand.ask(1)
        for letter in self.letters(3, 1) + self.letters(FAR, 1) + self.letters(1, 1):
            self.refused(hand, NotMine, letter, "hear", letter)
        alone = Hand(0, 1, 5, hold(0, 4))
        for letter in self.letters(1, 0):
            self.refused(alone, NotMine, letter, "hear", letter)

    def test_things_of_any_kind(self):
        hand = trio()[1]
        hand.ask(1)
        for thing in ODD + DEEPEST + [()]:
            self.refused(hand, NotMine, thing, "hear", thing)
        for letter in self.letters(2, 1):
            for thing in (list(letter), letter[:-1], letter + (0,), (letter,), str(letter), letter[:1] + letter[2:],
                          ("give",) + letter[1:], letter[:1] + (True,) + letter[2:], letter[:2] + (True,) + letter[3:],
                          letter[:-1] + (None,), letter[:3] + (-1,) + letter[4:], letter[:3] + ((0, 0),) + letter[4:]):
                self.refused(hand, NotMine, thing, "hear", thing)

    def test_of_one_that_is_down(self):
        hand = trio()[1]
        hand.fall()
        for thing in self.letters(2, 1) + self.letters(2, 0) + tuple(ODD):
            self.refused(hand, Fallen, 1, "hear", thing)

    def test_by_name(self):
        hand = trio()[1]
        self.assertEqual(hand.hear(letter=("ask", 0, 1, (1, 0), 0)),
                         (("told", 1, 0, (1, 0), hold(3, 5, (1, 0)), 0, ()),))
