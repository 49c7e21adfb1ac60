from ridingvotes.restoring import restored
from ridingvotes.slips import FRESH, NONE
from ridingvotes.worlds import world_of
from tests.things import LONG
from tests.world_case import ASKED, CHOSEN, WorldCase, comes, led

ASK = ((1, 0), ())
TAKEN = ((1, 0), ((0, (1, 0), 7),))


class Spots(WorldCase):
    def test_with_hands(self):
        self.is_told(led((3, 0, 2)).spots(), ((0, 2, (0,), FRESH, 0), (3, 4, (2,), FRESH, 0)))
        self.is_told(led((3, 3), ("ask", 0, 1)).spots(), ((0, 2, (0,), ASK, 0), (3, 5, (1,), FRESH, 0)))
        self.is_told(led((LONG, LONG)).spots(), ((0, LONG - 1, (0,), FRESH, 0), (LONG, 2 * LONG - 1, (1,), FRESH, 0)))

    def test_with_hands_that_are_down(self):
        self.is_told(led((3, 3), ("fall", 0)).spots(), ((0, 2, (0,), FRESH, 0), (3, 5, (1,), FRESH, 0)))

    def test_in_parcels(self):
        world = led((3, 3, 3), ("ask", 0, 1), ("give", 0, 1, ((1, 1),)), ("give", 0, 1, ((2, 2),)),
                    ("give", 1, 0, ((3, 3), (5, 5))))
        parcels = ((0, 0, (0,), ASK, 0), (1, 1, (0, 1, 0), ASK, 0), (2, 2, (0, 1, 1), ASK, 0),
                   (3, 3, (1, 0, 0), FRESH, 0), (4, 4, (1,), FRESH, 0), (5, 5, (1, 0, 0), FRESH, 0),
                   (6, 8, (2,), FRESH, 0))
        self.is_told(world.spots(), parcels)
        while len(world):
            world.do(("lose", 0))
        self.is_told(world.spots(), parcels)
        world.do(("fall", 0))
        world.do(("fall", 1))
        self.is_told(world.spots(), parcels)

    def test_taken_though_the_giver_has_no_receipt_yet(self):
        world = led((3, 3), ("give", 0, 1, ((1, 2),)), ("come", 0))
        self.is_told(world.road(), (("receipt", 1, 0, 1, 0),))
        self.is_told(len(world.hand(0).book()[8]), 1)
        taken = ((0, 0, (0,), FRESH, 0), (1, 5, (1,), FRESH, 0))
        self.is_told(world.spots(), taken)
        world.do(("come", 0))
        self.is_told(world.hand(0).book()[8], ())
        self.is_told(world.spots(), taken)

    def test_taken_ahead_of_another_one(self):
        world = led((3, 3), ("give", 0, 1, ((0, 0),)), ("give", 0, 1, ((2, 2),)), ("come", 1))
        self.is_told(world.spots()[0], (0, 0, (0, 1, 0), FRESH, 0))
        self.is_told(world.spots()[2], (2, 2, (0, 1, 1), FRESH, 0))
        world.do(("come", 0))
        self.is_told(world.spots(), ((0, 0, (1,), FRESH, 0), (1, 1, (0,), FRESH, 0), (2, 2, (0, 1, 1), FRESH, 0),
                                     (3, 5, (1,), FRESH, 0)))

    def test_parcels_that_came_twice(self):
        world = led((3, 3), ("give", 0, 1, ((1, 2),)), ("double", 0), ("come", 0), ("come", 0))
        taken = ((0, 0, (0,), FRESH, 0), (1, 5, (1,), FRESH, 0))
        self.is_told(world.spots(), taken)
        world.do(("again", 0))
        self.is_told(world.road()[-1][0], "parcel")
        world.do(("give", 1, 0, ((1, 1),)))
        world.do(("come", 2))
        self.is_told(world.spots(), ((0, 0, (0,), FRESH, 0), (1, 1, (1, 0, 0), FRESH, 0), (2, 5, (1,), FRESH, 0)))

    def test_neighbours_that_are_one(self):
        world = led((2, 2, 2), ("give", 1, 0, ((2, 2),)), ("come", 0), ("give", 2, 0, ((4, 4),)))
        self.is_told(world.spots(), ((0, 2, (0,), FRESH, 0), (3, 3, (1,), FRESH, 0), (4, 4, (2, 0, 0), FRESH, 0),
                                     (5, 5, (2,), FRESH, 0)))

    def test_neighbours_that_are_not(self):
        """Unlike by the place's last part, by the slip, by the floor alone."""
        world = led((4, 0), ("give", 0, 1, ((0, 0),)), ("give", 0, 1, ((1, 1),)), ("ask", 0, 1))
        self.is_told(world.spots(), ((0, 0, (0, 1, 0), FRESH, 0), (1, 1, (0, 1, 1), FRESH, 0), (2, 3, (0,), ASK, 0)))
        world = led((3, 3, 3), *CHOSEN[:-2], ("give", 0, 2, ((2, 2),)), ("come", 2))
        self.is_told(world.spots(), ((0, 1, (0,), ASK, 1), (2, 2, (2,), ASK, 1), (3, 5, (1,), TAKEN, 0),
                                     (6, 8, (2,), ASK, 1)))

    def test_the_floor_of_a_hand(self):
        world = led((3, 3, 3), *CHOSEN[:-2])
        self.is_told(world.spots(), ((0, 2, (0,), ASK, 1), (3, 5, (1,), TAKEN, 0), (6, 8, (2,), TAKEN, 0)))
        world.do(("come", 0))
        self.is_told(world.spots(), ((0, 2, (0,), ASK, 1), (3, 5, (1,), ASK, 1), (6, 8, (2,), TAKEN, 0)))

    def test_the_floor_of_a_parcel(self):
        """Since and how many words together, as they were when it was given."""
        world = led((3, 3, 3), *CHOSEN, ("give", 0, 1, ((0, 0),)), ("offer", 0, 1, 8), ("give", 2, 1, ((8, 8),)))
        self.is_told(world.road()[0][5:], (0, (7,)))
        while len(world):
            world.do(("lose", 0))
        world.do(("give", 0, 2, ((1, 1),)))
        world.do(("again", 0))
        world.settle((0, 1, 2))
        world.do(("give", 0, 2, ((2, 2),)))
        self.is_told(world.road()[0][5:], (1, (8,)))
        self.is_told(world.spots()[2], (2, 2, (0, 2, 1), ((1, 0), ()), 2))

    def test_the_floor_of_a_parcel_stays(self):
        world = led((3, 3, 3), *ASKED, ("offer", 0, 0, 7), ("give", 0, 1, ((0, 0),)), *comes(2), *comes(3))
        self.is_told(world.hand(0).book()[6], (7,))
        world = led((3, 3, 3), *ASKED, ("offer", 0, 0, 7), ("give", 0, 1, ((0, 0),)), ("lose", 2), *comes(4))
        self.is_told(world.spots()[:2], ((0, 0, (0, 1, 0), TAKEN, 0), (1, 2, (0,), ASK, 1)))


class Greatest(WorldCase):
    def test_none(self):
        self.is_told(led((3, 3)).greatest(), NONE)
        self.is_told(led((3, 3), ("give", 0, 1, ((0, 0),)), ("fall", 1), ("rise", 1)).greatest(), NONE)

    def test_by_a_hand_that_heard(self):
        world = led((3, 0, 3), ("ask", 0, 4), ("come", 0), ("fall", 0))
        self.is_told(world.greatest(), (4, 0))
        world = led((3, 0, 3), ("ask", 1, 4), ("lose", 0), ("lose", 0))
        self.is_told(world.greatest(), (4, 1))

    def test_by_a_hand_that_asked_but_heard_a_greater_one(self):
        world = led((3, 3, 3), ("ask", 2, 5), ("come", 0), ("ask", 0, 3))
        self.is_told(world.hand(0).book()[2:5:2], ((5, 2), 3))
        self.is_told(world.greatest(), (5, 2))

    def test_as_tuples_are(self):
        self.is_told(led((3, 3, 3), ("ask", 0, 4), ("ask", 2, 4), ("ask", 1, 4)).greatest(), (4, 2))
        self.is_told(led((3, 3, 3), ("ask", 2, 4), ("ask", 0, 5)).greatest(), (5, 0))

    def test_by_one_thing_alone(self):
        """Deeds lead to no such worlds: there the greatest is heard by some hand, whatever else has it."""
        book = (NONE, (), 0, (), (), (), (), (0, 0), (0, 0), ())
        hands = [restored((name, ((name, name, FRESH),)) + book, None, 2) for name in range(2)]
        self.is_told(world_of(2, hands, []).greatest(), NONE)
        held = ((1, 1, ((6, 0), ((0, (5, 1), 7),))),)
        parcel = ((1, 0, held, 0, ()),)
        for parts, ballot in (((held, NONE, (), 0, (), (), (), ()), (6, 0)),
                              (((), (3, 1), (), 0, (), (), (), ()), (3, 1)),
                              (((), NONE, (), 4, (), (), (), ()), (4, 0)),
                              (((), NONE, (), 0, (), (), (), parcel), (6, 0))):
            hand = restored((0, *parts, (0, 0), (0, 0), ()), None, 2)
            self.is_told(world_of(2, [hand, hands[1]], []).greatest(), ballot)
        for letter, ballot in ((("ask", 0, 1, (2, 0), 9), (2, 0)), (("told", 0, 1, (2, 1), held, 0, (9,)), (2, 1)),
                               (("offer", 0, 1, (2, 0), 9, 9), (2, 0)), (("took", 0, 1, (2, 1), 9, ((9, 9),)), (2, 1)),
                               (("late", 0, 1, (2, 1), (3, 0)), (3, 0)), (("known", 0, 1, 9, (9,)), NONE),
                               (("parcel", 0, 1, 9, held, 9, ()), NONE), (("receipt", 0, 1, 9, 9), NONE)):
            self.is_told(world_of(2, hands, [letter]).greatest(), ballot)
            self.is_told(world_of(2, hands, [("late", 0, 1, (1, 0), (1, 1)), letter]).greatest(), max(ballot, (1, 1)))


class Took(WorldCase):
    def test_none(self):
        self.is_told(led((3, 3)).took(), ())
        self.is_told(led((3, 3, 3), *ASKED).took(), ())

    def test_as_more_take(self):
        world = led((3, 3, 3), *ASKED, ("offer", 0, 0, 7))
        self.is_told(world.took(), ((0, (1, 0), 7, ((0, 2),)),))
        world.do(("come", 1))
        self.is_told(world.took(), ((0, (1, 0), 7, ((0, 2), (6, 8))),))
        world.do(("come", 0))
        self.is_told(world.took(), ((0, (1, 0), 7, ((0, 8),)),))

    def test_it_stays_when_the_row_is_known_and_hands_fall(self):
        world = led((3, 3, 3), *CHOSEN, ("fall", 0), ("fall", 1), ("fall", 2))
        self.is_told(world.took(), ((0, (1, 0), 7, ((0, 8),)),))

    def test_by_several_logs_of_one_point(self):
        world = led((3, 3, 3), *ASKED, ("offer", 0, 0, 7), ("come", 0), ("give", 0, 1, ((0, 1),)), ("come", 2))
        logs = [world.hand(name).book()[11] for name in range(3)]
        self.is_told(logs, [((0, (1, 0), 7, ((0, 2),)),), ((0, (1, 0), 7, ((0, 1), (3, 5))),), ()])
        self.is_told(world.took(), ((0, (1, 0), 7, ((0, 5),)),))

    def test_of_several_rows_and_ballots(self):
        world = led((3, 3, 3), *ASKED, ("offer", 0, 1, 7), ("offer", 0, 0, 9), ("come", 2), ("lose", 0), ("lose", 0),
                    ("lose", 0), ("lose", 0), ("ask", 2, 2), *comes(4), ("offer", 2, 1, 5), ("offer", 2, 3, 0))
        self.is_told(world.took(), ((0, (1, 0), 9, ((0, 5),)), (1, (1, 0), 7, ((0, 2),)), (1, (2, 2), 7, ((6, 8),)),
                                    (3, (2, 2), 0, ((6, 8),))))


class Chosen(WorldCase):
    def test_none(self):
        self.is_told(led((3, 3)).chosen(), ())

    def test_just_half_and_one_point_more(self):
        for shares, chosen in (((2, 2, 0), ()), ((3, 2, 0), ((0, 7),)), ((2, 3, 0), ()), ((4, 3, 1), ()),
                               ((5, 3, 1), ((0, 7),)), ((5, 4, 1), ()), ((LONG, LONG), ()),
                               ((LONG + 1, LONG), ((0, 7),))):
            world = led(shares, ("ask", 0, 1))
            while len(world):
                world.do(("come", 0))
            world.do(("offer", 0, 0, 7))
            self.is_told(world.chosen(), chosen)

    def test_as_soon_as_it_was_taken(self):
        world = led((3, 3, 3), *ASKED, ("offer", 0, 0, 7))
        self.is_told(world.chosen(), ())
        world.do(("come", 0))
        self.is_told(world.chosen(), ((0, 7),))
        self.is_told([world.hand(name).book()[6] for name in range(3)], [(), (), ()])

    def test_wherever_the_points_were(self):
        world = led((3, 3, 3), *ASKED, ("offer", 0, 0, 7), ("lose", 0), ("lose", 0), ("give", 0, 2, ((0, 2),)),
                    ("give", 2, 1, ((6, 7),)), ("come", 1), ("lose", 0), ("again", 0))
        self.is_told(world.chosen(), ())
        # The offer reaches hand 1, with hand 2's points.
        at = [letter[:3] for letter in world.road()].index(("offer", 0, 1))
        world.do(("come", at))
        self.is_told(world.took()[0][3], ((0, 7),))
        self.is_told(world.chosen(), ((0, 7),))

    def test_by_each_of_several_ballots(self):
        """Neither half of the points by one ballot each, then by one of them; and by both."""
        world = led((2, 2, 1), ("ask", 0, 1), *comes(4), ("offer", 0, 0, 7), ("lose", 0), ("lose", 0), ("ask", 2, 2),
                    *comes(4), ("offer", 2, 0, 5))
        self.is_told(world.took(), ((0, (1, 0), 7, ((0, 1),)), (0, (2, 2), 7, ((4, 4),))))
        self.is_told(world.chosen(), ())
        world.do(("come", 0))
        self.is_told(world.took(), ((0, (1, 0), 7, ((0, 1),)), (0, (2, 2), 7, ((0, 1), (4, 4)))))
        self.is_told(world.chosen(), ((0, 7),))
        world = led((2, 2, 1), ("ask", 0, 1), *comes(4), ("offer", 0, 0, 7), ("come", 1), ("lose", 0), ("lose", 0),
                    ("ask", 1, 2), *comes(4), ("offer", 1, 0, 5), *comes(2))
        self.is_told(world.took(), ((0, (1, 0), 7, ((0, 1), (4, 4))), (0, (2, 1), 7, ((0, 4),))))
        self.is_told(world.chosen(), ((0, 7),))

    def test_of_several_rows(self):
        world = led((3, 1), ("ask", 0, 1), ("offer", 0, 5, 7), ("offer", 0, 0, 9), ("offer", 0, 2, 0))
        self.is_told(world.chosen(), ((0, 9), (2, 0), (5, 7)))
