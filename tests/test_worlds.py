import copy

from ridingvotes.errors import BadWorld, NoHand
from ridingvotes.hands import Hand
from ridingvotes.worlds import World
from tests.hand_case import NONE
from tests.things import DEEPEST, LONG, ODD
from tests.walks import Walk
from tests.world_case import ASKED, CHOSEN, WorldCase, all_told, comes, led, run


class Shares(WorldCase):
    def test_points_one_behind_the_other(self):
        world = World((3, 2, 4))
        self.is_told((world.hands(), world.points(), world.road(), len(world)), (3, 9, (), 0))
        for name, holding in enumerate(((run(0, 2),), (run(3, 4),), (run(5, 8),))):
            self.assertTrue(world.hand(name) == Hand(name, 3, 9, holding))
            self.is_told(world.hand(name).book(),
                         (name, holding, NONE, (), 0, (), (), (), (), (0, 0, 0), (0, 0, 0), ()))
            self.is_told(world.hand(name).mind(), (None, (), (0, 0, 0), NONE))

    def test_none_among_them(self):
        for shares, holdings in (((0, 0, 1), ((), (), (run(0, 0),))), ((2, 0, 1), ((run(0, 1),), (), (run(2, 2),))),
                                 ((5, 0), ((run(0, 4),), ()))):
            world = World(shares)
            self.is_told(tuple(world.hand(name).book()[1] for name in range(world.hands())), holdings)
            self.is_told((world.hands(), world.points()), (len(shares), sum(shares)))

    def test_of_one_hand_and_of_eight(self):
        world = World((5,))
        self.is_told((world.hands(), world.points()), (1, 5))
        self.assertTrue(world.hand(0) == Hand(0, 1, 5, (run(0, 4),)))
        world = World((1, 0, 2, 0, 0, 3, 0, 1))
        self.is_told((world.hands(), world.points()), (8, 7))
        self.assertTrue(world.hand(7) == Hand(7, 8, 7, (run(6, 6),)))
        self.assertTrue(world.hand(5) == Hand(5, 8, 7, (run(3, 5),)))

    def test_great_shares(self):
        world = World((LONG,) * 8)
        self.is_told(world.points(), 8 * LONG)
        self.is_told(world.hand(7).book()[1], (run(7 * LONG, 8 * LONG - 1),))
        world.do(("ask", 3, 1))
        self.is_told(world.settle(tuple(range(8))), 28)
        self.is_told(world.do(("offer", 3, 0, 5)), 5)
        world.settle(tuple(range(8)))
        self.is_told(world.chosen(), ((0, 5),))

    def test_all_of_them_know_how_many_points_there_are(self):
        """Just half isn't more than half."""
        world = led((2, 1, 1), ("ask", 0, 1))
        with self.assertRaises(ValueError):
            world.do(("offer", 0, 0, 5))
        world = led((3, 1, 1), ("ask", 0, 1))
        self.is_told(world.do(("offer", 0, 0, 5)), 5)
        self.is_told(world.hand(0).book()[6], (5,))

    def test_by_name(self):
        self.assertTrue(World(shares=(2, 3)) == World((2, 3)))

    def test_no_shares(self):
        for thing in ((1,) * 9, (0,) * 9, (), (0,), (0, 0, 0), (0,) * 8, [1, 2], [3], (True,), (1, True), (False, 1),
                      ("1",), (1, "2"), "12", (-1,), (1, -1), (-1, 3), (1, None), ((1,),), (1, (2,)), (1, [2]), 3, None,
                      {0: 1}, {}, [], "", (0, -1, 1)):
            self.refused(None, BadWorld, thing, World, thing)

    def test_shares_of_any_kind(self):
        for thing in ODD + DEEPEST:
            if thing not in ((7,), (0, 1, 2), (0, 1, 2, 3)) or isinstance(thing, list):
                self.refused(None, BadWorld, thing, World, thing)
        self.refused(None, BadWorld, (True, True), World, shares=(True, True))


class OneHand(WorldCase):
    def test_a_copy(self):
        world = led((3, 3, 3), *CHOSEN)
        before = repr(all_told(world))
        hand = world.hand(1)
        self.assertIsInstance(hand, Hand)
        self.assertTrue(hand == world.hand(1))
        hand.ask(7)
        hand.offer(1, 3) if hand.held() > 4 else hand.give(0, ((3, 4),))
        hand.hear(("known", 0, 1, 0, (7, 8, 9)))
        hand.hear(("late", 0, 1, (7, 1), (9, 2)))
        self.assertEqual(repr(all_told(world)), before)
        self.assertFalse(hand == world.hand(1))
        hand.fall()
        self.assertEqual(repr(all_told(world)), before)
        self.assertIsNone(hand.mind())
        self.assertIsNotNone(world.hand(1).mind())

    def test_it_goes_on_as_the_hand_of_the_world(self):
        """In the midst of its asking, with what its mind has."""
        for name in range(3):
            world = led((3, 3, 3), *ASKED, ("offer", 0, 1, 7), ("give", 1, 0, ((3, 3),)), *comes(2))
            hand = world.hand(name)
            for letter in world.road():
                if letter[2] == name:
                    hand.hear(letter)
            at = 0
            while at < len(world.road()):
                if world.road()[at][2] == name and world.road()[at][1] != name:
                    world.do(("come", at))
                else:
                    at += 1
            self.assertTrue(world.hand(name) == hand)
            self.assertEqual(hand.again(), hand.again())
            road = world.road()
            world.do(("again", name))
            self.is_told(world.road()[len(road):], hand.again())

    def test_one_that_is_down(self):
        world = led((3, 3, 3), *CHOSEN, ("fall", 0))
        hand = world.hand(0)
        self.assertIsNone(hand.mind())
        self.assertTrue(hand == world.hand(0))
        hand.rise()
        self.is_told(hand.mind(), (None, (), (1, 0, 0), NONE))
        self.assertIsNone(world.hand(0).mind())
        world.do(("rise", 0))
        self.assertTrue(hand == world.hand(0))

    def test_what_was_told_stays(self):
        world = World((3, 3, 3))
        hand = world.hand(0)
        world.do(("ask", 0, 1))
        self.assertTrue(hand == Hand(0, 3, 9, (run(0, 2),)))

    def test_no_hand(self):
        world = led((3, 3, 3), *ASKED)
        for thing in (3, 8, -1, True, False, None, "0", (0,), [0], (), {0: 0}):
            self.refused(world, NoHand, thing, world.hand, thing)
        for thing in ODD + DEEPEST:
            if thing not in (0, 1) or isinstance(thing, bool):
                self.refused(world, NoHand, thing, world.hand, name=thing)
        self.assertTrue(world.hand(name=2) == world.hand(2))


class Road(WorldCase):
    def test_in_the_order_sent(self):
        world = led((3, 3, 3), ("ask", 1, 1), ("ask", 0, 4))
        asked = (("ask", 1, 0, (1, 1), 0), ("ask", 1, 2, (1, 1), 0), ("ask", 0, 1, (4, 0), 0), ("ask", 0, 2, (4, 0), 0))
        self.is_told(world.road(), asked)
        self.is_told(len(world), 4)
        world.do(("come", 1))
        self.is_told(world.road(), asked[:1] + asked[2:] + (("told", 2, 1, (1, 1), (run(6, 8, (1, 1)),), 0, ()),))
        self.is_told(len(world), 4)

    def test_what_was_told_stays(self):
        world = led((3, 3, 3), ("ask", 1, 1))
        road = world.road()
        world.do(("lose", 0))
        self.assertEqual((len(road), len(world)), (2, 1))


class Copies(WorldCase):
    def test_alike_and_of_its_own(self):
        for deeds in ((), ASKED, CHOSEN, ASKED + (("give", 1, 2, ((4, 5),)), ("fall", 2), ("offer", 0, 3, 1))):
            world = led((3, 3, 3), *deeds)
            other = world.copy()
            self.assertIsInstance(other, World)
            self.assertTrue(other == world)
            self.assertEqual(repr(all_told(other)), repr(all_told(world)))
            before = repr(all_told(world))
            for deed in (("ask", 1, 8), ("give", 0, 1, ((0, 0),)), ("double", 0), ("come", 0), ("fall", 1)):
                other.do(deed)
            other.settle((0,))
            self.assertEqual(repr(all_told(world)), before)
            self.assertFalse(other == world)

    def test_the_world_goes_on_without_its_copy(self):
        world = led((3, 3, 3), *ASKED)
        other = world.copy()
        before = repr(all_told(other))
        for deed in (("offer", 0, 0, 7), *comes(6), ("give", 0, 1, ((0, 1),)), ("fall", 2)):
            world.do(deed)
        self.assertEqual(repr(all_told(other)), before)

    def test_both_go_on_alike(self):
        world = led((3, 3, 3), *ASKED, ("give", 1, 2, ((4, 5),)))
        other = world.copy()
        for deed in (("offer", 0, 0, 7), *comes(6), ("give", 0, 1, ((0, 1),)), ("fall", 2), ("ask", 1, 5), *comes(2)):
            self.is_told(world.do(deed), other.do(deed))
            self.assertEqual(repr(all_told(other)), repr(all_told(world)))

    def test_copies_of_copies_go_ways_of_their_own(self):
        """Behind each step of one, refused ones too, all others are as they were; so are hands that were told."""
        many = 0
        for seed in range(20):
            walk = Walk(seed)
            worlds = [walk.world]
            for at in range(100):
                if at % 10 == 0:
                    worlds.append(walk.dice.choice(worlds).copy())
                walk.world = walk.dice.choice(worlds)
                others = [world for world in worlds if world is not walk.world]
                hands = [world.hand(name) for world in worlds for name in walk.names]
                before = repr([all_told(world) for world in others]), repr([(one.book(), one.mind()) for one in hands])
                if at % 25 == 24:
                    walk.world.settle(tuple(name for name in walk.names if walk.world.hand(name).mind() is not None))
                else:
                    walk.step()
                told = repr([all_told(world) for world in others]), repr([(one.book(), one.mind()) for one in hands])
                self.assertEqual(told, before)
            many += len({repr(all_told(world)) for world in worlds})
        self.assertGreater(many, 120)

    def test_a_hand_that_was_told_leaves_world_and_copy_alone(self):
        world = led((3, 3, 3), *CHOSEN, ("give", 1, 0, ((3, 3),)))
        other = world.copy()
        before = repr(all_told(world))
        for name, letter in enumerate((("parcel", 1, 0, 0, (run(3, 3, (1, 0)),), 0, (7,)),
                                       ("receipt", 0, 1, 1, 5), ("ask", 0, 2, (8, 0), 0))):
            for hand in (world.hand(name), other.hand(name)):
                self.assertTrue(hand.hear(letter) != () or name == 1)
                hand.ask(9)
                self.assertFalse(hand == world.hand(name))
        self.assertEqual(repr(all_told(world)), before)
        self.assertEqual(repr(all_told(other)), before)
        self.assertTrue(world == other)

    def test_the_copy_knows_how_many_points_there_are(self):
        other = led((3, 1, 1), ("ask", 0, 1)).copy()
        self.is_told(other.points(), 5)
        self.is_told(other.do(("offer", 0, 0, 5)), 5)
        self.is_told(other.chosen(), ((0, 5),))


class Alike(WorldCase):
    def alike(self, one, other):
        self.assertIs(one == other, True)
        self.assertIs(other == one, True)
        self.assertIs(one != other, False)

    def unlike(self, one, other):
        self.assertIs(one == other, False)
        self.assertIs(other == one, False)
        self.assertIs(one != other, True)

    def test_led_by_the_same_deeds(self):
        self.alike(World((1, 2)), World((1, 2)))
        self.alike(led((3, 3, 3), *CHOSEN), led((3, 3, 3), *CHOSEN))
        world = led((3, 3, 3), *ASKED)
        self.alike(world, world)
        for many in range(len(CHOSEN)):
            self.unlike(led((3, 3, 3), *CHOSEN[:many]), led((3, 3, 3), *CHOSEN[:many + 1]))

    def test_other_ways_to_the_same(self):
        self.alike(led((3, 3, 3), ("ask", 0, 1)), led((3, 3, 3), ("ask", 0, 1), ("double", 0), ("lose", 2)))
        self.alike(led((1, 1), ("fall", 0), ("rise", 0)), World((1, 1)))

    def test_other_shares(self):
        self.unlike(World((1, 2)), World((2, 1)))
        self.unlike(World((1, 2)), World((1, 2, 0)))
        self.unlike(World((1, 2)), World((1, 3)))

    def test_a_letter_more(self):
        self.unlike(led((3, 3, 3), *ASKED), led((3, 3, 3), *ASKED, ("again", 0)))
        self.unlike(led((3, 3, 3), ("ask", 0, 1)), led((3, 3, 3), ("ask", 0, 1), ("lose", 1)))
        self.unlike(led((3, 3, 3), ("ask", 0, 1)), led((3, 3, 3), ("ask", 0, 1), ("double", 1)))

    def test_letters_in_another_order(self):
        one, other = led((3, 3, 3), ("ask", 0, 1)), led((3, 3, 3), ("ask", 0, 1), ("double", 0), ("lose", 0))
        self.assertEqual(sorted(one.road()), sorted(other.road()))
        self.unlike(one, other)

    def test_a_mind_that_is_gone(self):
        self.unlike(World((3, 3)), led((3, 3), ("fall", 0)))
        self.unlike(led((3, 3), ("ask", 0, 1)), led((3, 3), ("ask", 0, 1), ("fall", 0)))
        self.unlike(led((3, 3), ("ask", 0, 1)), led((3, 3), ("ask", 0, 1), ("fall", 0), ("rise", 0)))

    def test_with_anything_else(self):
        world = led((3, 3), ("ask", 0, 1))
        for thing in ODD + DEEPEST + [(3, 3), (), [], world.hand(0), world.road(), all_told(world), World]:
            self.unlike(world, thing)
        self.assertFalse(World((1,)).hand(0) == World((1,)))

    def test_nothing_is_changed_by_asking(self):
        world = led((3, 3, 3), *CHOSEN)
        before = copy.deepcopy(all_told(world))
        self.assertTrue(world == world.copy())
        self.assertEqual(repr(all_told(world)), repr(before))
        self.assertEqual(repr(all_told(world)), repr(all_told(world)))
