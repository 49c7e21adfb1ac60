import copy
import random
from collections import deque
from unittest import mock

from ridingvotes.errors import Missing, VoteError
from ridingvotes.hands import Hand
from ridingvotes.weaving import shows_weavings, weavings
from ridingvotes.worlds import World
from tests.plain_world import PlainWorld
from tests.promises import Watch
from tests.things import DEEPEST, ODD
from tests.walks import Walk
from tests.world_case import WorldCase, all_told, comes, led

ASK, OFFER = ("ask", 1), ("offer", 0, 7)


class Going:
    """Goes through all states, letter by letter, by copies of the world."""

    def __init__(self, world, plans):
        self.plans = plans
        self.states, self.ends = {}, set()
        waiting = deque([(world.copy(), (0,) * len(plans))])
        while waiting:
            world, done = waiting.popleft()
            if self.key(world, done) not in self.states:
                self.states[self.key(world, done)] = world
                behind = self.behind(world, done)
                waiting.extend(behind)
                if not behind:
                    self.ends.add((tuple(self.known(world)), world.chosen()))

    def told(self):
        return ("all", len(self.states), tuple(sorted(self.ends)))

    def hands(self, world):
        return world.members if isinstance(world, PlainWorld) else [world.hand(name) for name in range(world.hands())]

    def known(self, world):
        return [hand.book()[6] for hand in self.hands(world)]

    def key(self, world, done):
        letters = {}
        for letter in world.road():
            letters[repr(letter)] = letters.get(repr(letter), 0) + 1
        hands = tuple(repr((hand.book(), hand.mind())) for hand in self.hands(world))
        return (hands, frozenset(letters.items()), done)

    def behind(self, world, done):
        found = []
        for at in range(len(world.road())):
            found.append((self.done(world, ("come", at)), done))
        for name, plan in enumerate(self.plans):
            if done[name] < len(plan):
                deed = plan[done[name]]
                found.append((self.done(world, (deed[0], name) + deed[1:]),
                              done[:name] + (done[name] + 1,) + done[name + 1:]))
        return found

    def done(self, world, deed):
        world = world.copy()
        try:
            world.do(deed)
        except (VoteError, Missing):
            pass
        return world


class Weavings(WorldCase):
    def goes(self, world, plans, kind=World):
        """Weavings tells what going through all states tells; what that is."""
        before, plans_before = repr(all_told(world)), repr(plans)
        going = Going(world, plans)
        told = weavings(world, plans, most=100000)
        self.is_told(told, going.told())
        self.assertEqual(repr(all_told(world)), before)
        self.assertEqual(repr(plans), plans_before)
        self.assertIs(shows_weavings(world, plans, told, most=100000), True)
        return told

    def test_plans_of_nothing(self):
        self.is_told(weavings(World((3, 2)), ((), ())), ("all", 1, ((((), ()), ()),)))
        self.is_told(weavings(World((3,)), ((),)), ("all", 1, ((((),), ()),)))
        self.is_told(self.goes(led((3, 3, 3), ("ask", 0, 1)), ((), (), ()))[0], "all")

    def test_one_deed(self):
        self.is_told(weavings(World((3,)), ((ASK,),)), ("all", 2, ((((),), ()),)))
        self.is_told(weavings(World((3,)), ((ASK, OFFER),)), ("all", 3, ((((7,),), ((0, 7),)),)))
        # At first, asked, heard, told.
        self.is_told(weavings(World((3, 2)), ((ASK,), ())), ("all", 4, ((((), ()), ()),)))

    def test_one_hand_that_chooses(self):
        self.is_told(self.goes(World((2, 1)), ((ASK, OFFER), ()))[2], ((((7,), (7,)), ((0, 7),)),))

    def test_where_the_offer_may_come_too_early(self):
        """It is refused where its asking hasn't come to more than half, and done all the same."""
        self.is_told(self.goes(World((1, 2)), ((ASK, OFFER), ()))[2],
                     ((((), ()), ()), (((7,), (7,)), ((0, 7),))))

    def test_two_hands_that_offer(self):
        told = self.goes(World((2, 1)), ((ASK, OFFER), (ASK, ("offer", 0, 8))))
        self.is_told(told[2], ((((), ()), ()), (((7,), (7,)), ((0, 7),)), (((8,), (8,)), ((0, 8),))))
        self.goes(World((1, 1)), ((ASK, OFFER), (ASK, ("offer", 0, 8))))

    def test_three_hands(self):
        self.goes(World((1, 1, 1)), ((ASK, OFFER), (), ()))
        self.goes(World((1, 1, 1)), ((ASK,), (("ask", 1),), ()))

    def test_that_give(self):
        told = self.goes(World((2, 1)), ((("give", 1, ((0, 0),)), ASK, OFFER), ()))
        self.assertEqual(len(told[2]), 2)
        self.goes(World((2, 1)), ((ASK, ("give", 1, ((0, 1),)), OFFER), (("give", 0, ((2, 2),)),)))

    def test_that_fall_and_rise(self):
        self.goes(World((2, 1)), ((ASK, OFFER), (("fall",), ("rise",))))
        self.goes(World((1, 2)), ((ASK, ("fall",), ("rise",), ("again",), ("ask", 2), OFFER), ()))

    def test_that_do_again(self):
        self.goes(World((1, 2)), ((ASK, ("again",), OFFER), (("give", 0, ((1, 1),)), ("again",))))

    def test_deeds_that_are_refused(self):
        many = weavings(World((3, 2)), ((ASK,), ()))[1]
        for deed in (("ask", 0), ("offer", 0, 7), ("offer", 99, None), ("give", 0, ((0, 0),)), ("give", 5, None),
                     ("rise",),
                     ("give", 1, ((9, 9),)), ("ask", None), ("offer", 0, -1),
                     ("ask",), ("ask", 1, 2), ("rise", 0), ("come",), ("lose",), ("double",), ("none",)):
            self.is_told(self.goes(World((3, 2)), ((deed,), ())), ("all", 2, ((((), ()), ()),)))
            # The states of the other hand's plan, and each once more with this deed done.
            self.is_told(self.goes(World((3, 2)), ((ASK,), (("rise",),)))[1], 2 * many)
        self.is_told(self.goes(World((3, 2)), ((("fall",), ("come",), ASK), ()))[1], 4)
        self.is_told(weavings(World((3, 2)), ((("fall",), ("ask", 1), ("again",), ("fall",)), ()))[1], 5)

    def test_a_letter_to_a_hand_that_is_down(self):
        told = self.goes(led((2, 1), ("fall", 1)), ((ASK, OFFER), ()))
        self.is_told(told[2], ((((7,), ()), ((0, 7),)),))
        self.is_told(self.goes(led((3, 2), ("ask", 0, 1), ("fall", 1)), ((), ())), ("all", 2, ((((), ()), ()),)))

    def test_letters_that_are_under_way_at_first(self):
        world = led((1, 2), ("ask", 0, 1), ("give", 1, 0, ((1, 1),)), ("ask", 1, 1))
        self.goes(world, ((), ()))
        self.goes(world, (((OFFER,), ())))
        self.goes(led((3, 3, 3), ("ask", 0, 1), *comes(4), ("offer", 0, 0, 7)), ((), (), ()))

    def test_the_same_letters_in_another_order_are_one(self):
        """Two askings, each of which may be sent first: by the road alone these would be more states."""
        told = self.goes(World((1, 0, 0)), ((), (("ask", 1),), (("ask", 1),)))
        by_road = set()
        waiting = [(World((1, 0, 0)), (0, 0, 0))]
        going = Going(World((1, 0, 0)), ((), (("ask", 1),), (("ask", 1),)))
        while waiting:
            world, done = waiting.pop()
            key = repr((all_told(world), done))
            if key not in by_road:
                by_road.add(key)
                waiting += going.behind(world, done)
        self.assertGreater(len(by_road), told[1])

    def test_the_same_letter_twice(self):
        """One letter twice in both is one state, and is another than the letter once."""
        one = led((1, 2), ("ask", 0, 1), ("double", 0))
        self.goes(one, ((), ()))
        self.assertGreater(weavings(one, ((), ()))[1], weavings(led((1, 2), ("ask", 0, 1)), ((), ()))[1])
        # At first, one asking come, both, and of each telling none, one or both come; all alike otherwise.
        self.is_told(weavings(one, ((), ()))[1], 6)
        self.goes(led((1, 1, 1), ("ask", 0, 1), ("double", 0), ("double", 1)), ((), (), ()))
        # To hands that are down, so that just the road is changed: of one letter none to two come, of the other one.
        one = led((1, 1, 1), ("ask", 0, 1), ("double", 0), ("fall", 1), ("fall", 2))
        self.is_told(self.goes(one, ((), (), ()))[1], 6)

    def test_the_most(self):
        plans = ((ASK, OFFER), (ASK, ("offer", 0, 8)))
        world = World((2, 1))
        many = weavings(world, plans, most=5000)[1]
        self.assertGreater(many, 300)
        for most in (many, many + 1, 10 ** 11):
            self.is_told(weavings(world, plans, most=most)[:2], ("all", many))
        for most in (many - 1, 300, 100, 2, 1, 0):
            self.is_told(weavings(world, plans, most=most), ("open", most))
        self.is_told(weavings(world, plans), ("open", 300))
        self.is_told(weavings(World((1,)), ((),), most=1), ("all", 1, ((((),), ()),)))
        self.is_told(weavings(World((1,)), ((),), most=0), ("open", 0))
        self.is_told(weavings(World((1,)), ((ASK,),), most=1), ("open", 1))

    def test_three_hundred_left_out(self):
        """A plan of refused deeds has a state for each that is done, and one more."""
        self.is_told(weavings(World((1,)), ((("rise",),) * 299,))[:2], ("all", 300))
        self.is_told(weavings(World((1,)), ((("rise",),) * 300,)), ("open", 300))
        self.is_told(weavings(World((1,)), ((("rise",),) * 300,), most=301)[:2], ("all", 301))
        ends = ((((),), ()),)
        self.assertIs(shows_weavings(World((1,)), ((("rise",),) * 299,), ("all", 300, ends)), True)
        self.assertIs(shows_weavings(World((1,)), ((("rise",),) * 300,), ("all", 301, ends)), False)
        self.assertIs(shows_weavings(World((1,)), ((("rise",),) * 300,), ("open", 300)), True)

    def test_as_plain_worlds(self):
        for shares, plans in (((2, 1), ((ASK, OFFER), ())), ((1, 2), ((ASK, OFFER), ())),
                              ((1, 1), ((ASK,), (("give", 0, ((1, 1),)),))), ((1, 0, 1), ((ASK,), (("fall",),), ()))):
            self.is_told(weavings(World(shares), plans, most=5000), Going(PlainWorld(shares), plans).told())

    def test_by_names(self):
        self.is_told(weavings(plans=((), ()), world=World((1, 1)), most=7), ("all", 1, ((((), ()), ()),)))
        self.assertIs(shows_weavings(thing=("open", 0), plans=((), ()), world=World((1, 1)), most=0), True)


class ManyStates(WorldCase):
    """Weavings that took long when each state was made anew by copies of the whole world."""

    SHARES = (3, 1, 1)
    PLANS = ((("ask", 9), ("offer", 0, 5)), (("ask", 8), ("offer", 0, 6)), (("fall",), ("rise",)))

    def test_just_so_many_are_open(self):
        world = World(self.SHARES)
        self.is_told(weavings(world, self.PLANS, most=400), ("open", 400))
        self.is_told(weavings(world, self.PLANS), ("open", 300))
        self.assertIs(shows_weavings(world, self.PLANS, ("open", 400), most=400), True)
        self.assertIs(shows_weavings(world, self.PLANS, ("open", 300)), True)
        self.assertIs(shows_weavings(world, self.PLANS, ("open", 400)), False)

    def test_the_world_stays_as_it_was(self):
        for deeds in ((), (("ask", 0, 3),) + comes(3) + (("give", 0, 2, ((1, 2),)), ("fall", 1))):
            world = led(self.SHARES, *deeds)
            other, hands = world.copy(), [world.hand(name) for name in range(3)]
            before = repr(all_told(world))
            for most in (400, 300, 1):
                self.is_told(weavings(world, self.PLANS, most=most), ("open", most))
                self.assertEqual(repr(all_told(world)), before)
                self.assertEqual(repr(all_told(other)), before)
            self.assertTrue(world == other)
            self.assertTrue(world == led(self.SHARES, *deeds))
            self.assertEqual([world.hand(name) for name in range(3)], hands)

    def test_all_that_comes_of_parts_of_it(self):
        (ask, offer), (other_ask, _), falls = self.PLANS
        world, plans = World(self.SHARES), ((ask,), (other_ask,), falls)
        going = Going(world, plans)
        self.is_told(weavings(world, plans, most=1146), going.told())
        self.is_told(weavings(world, plans, most=1145), ("open", 1145))
        ends = ((((5,), (5,), ()), ((0, 5),)), (((5,), (5,), (5,)), ((0, 5),)))
        self.is_told(weavings(world, ((ask, offer), (), falls), most=10000), ("all", 8287, ends))

    def test_each_hand_is_asked_once_by_each_letter(self):
        """However many states have both; else it would take as long as there are states."""
        asked = []

        def answer(hand, letter):
            asked.append(repr((hand.book(), hand.mind(), letter)))
            return heard(hand, letter)

        heard = Hand.answer
        with mock.patch.object(Hand, "answer", answer):
            weavings(World(self.SHARES), self.PLANS, most=400)
        self.assertEqual(len(asked), len(set(asked)))
        self.assertLess(len(asked), 200)


class SmallWorlds(WorldCase):
    """Many small worlds, one behind another."""

    SHARES = ((2, 1), (1, 2), (1, 1), (3, 1), (1, 1, 1), (2, 1, 1), (0, 2), (1, 0, 2), (3,))

    def deed(self, dice, name, walk):
        word = dice.choice(("ask", "ask", "offer", "offer", "give", "again", "fall", "rise"))
        if word == "ask":
            return (word, walk.world.hand(name).book()[4] + dice.randrange(3))
        if word == "offer":
            return (word, dice.choice((0, 0, 0, 1, 25)), dice.choice((5, 6, None)))
        if word == "give":
            first = dice.randrange(walk.world.points())
            return (word, dice.choice((0, 0, 1, 2)), ((first, first + dice.choice((0, 0, 1))),))
        return (word,)

    def some(self, seed):
        """A world somewhere in a history, few letters being on its road, and plans of few deeds."""
        dice = random.Random(seed)
        walk = Walk(seed, self.SHARES[seed % len(self.SHARES)])
        for _ in range(dice.choice((0, 0, 10, 40))):
            walk.step()
        while len(walk.world) > 3:
            walk.world.do(("lose", dice.randrange(len(walk.world))))
        left = dice.randrange(4)
        plans = [[] for _ in walk.names]
        for _ in range(left):
            name = dice.choice(walk.names)
            plans[name].append(self.deed(dice, name, walk))
        return walk.world, tuple(tuple(plan) for plan in plans)

    def test_as_going_through_all_states(self):
        ends = 0
        for seed in range(250):
            world, plans = self.some(seed)
            before = repr((all_told(world), plans))
            told = weavings(world, plans, most=250)
            self.assertEqual(repr((all_told(world), plans)), before)
            self.assertIs(shows_weavings(world, plans, told, most=250), True)
            if told == ("open", 250):
                self.assertIs(shows_weavings(world, plans, told), False)
                continue
            self.is_told(told, Going(world, plans).told())
            self.is_told(weavings(world, plans, most=told[1]), told)
            self.is_told(weavings(world, plans, most=told[1] - 1), ("open", told[1] - 1))
            ends += len(told[2])
        self.assertGreater(ends, 200)

    def test_parcels_given_in_another_order(self):
        """Point 1 may come ahead of the first deed or just ahead of the last: outboxes unlike by their order alone."""
        back = ("give", 1, ((1, 1),))
        plans = ((back, ("give", 2, ((0, 0),)), back), (("give", 0, ((1, 1),)),), ())
        going = Going(World((1, 1, 1)), plans)
        outboxes = {world.hand(0).book()[8] for world in going.states.values()}
        self.assertTrue(any(len(outbox) == 2 and outbox[::-1] in outboxes for outbox in outboxes))
        self.is_told(weavings(World((1, 1, 1)), plans, most=100000), going.told())


class ShowsWeavings(WorldCase):
    def shows(self, thing, told, most=300):
        world, plans = World((1, 2)), ((ASK, OFFER), ())
        before = repr(thing)
        self.assertIs(shows_weavings(world, plans, thing, most=most), told)
        self.assertEqual(repr(thing), before)
        self.assertTrue(world == World((1, 2)))

    def test_what_weavings_tells(self):
        told = weavings(World((1, 2)), ((ASK, OFFER), ()))
        self.is_told(told[0], "all")
        self.shows(told, True)
        self.shows(copy.deepcopy(told), True)
        self.shows(("open", 3), True, most=3)

    def test_one_thing_otherwise(self):
        told = weavings(World((1, 2)), ((ASK, OFFER), ()))
        _, many, ends = told
        self.is_told(ends, ((((), ()), ()), (((7,), (7,)), ((0, 7),))))
        for thing in (("all", many + 1, ends), ("all", many - 1, ends), ("all", 0, ends), ("all", -many, ends),
                      ("open", many, ends), ("All", many, ends), ("all", many), ("all", many, ends, ()),
                      ("all", many, ()),
                      ("all", many, ends[:1]), ("all", many, ends[1:]), ("all", many, ends[::-1]),
                      ("all", many, ends * 2),
                      ("all", many, ends + ((((8,), (8,)), ((0, 8),)),)), ("open", 300), ("open", many),
                      (many, "all", ends),
                      ("all", many, ((((), ()), ()), (((7,), ()), ((0, 7),)))),
                      ("all", many, ((((), ()), ()), (((8,), (7,)), ((0, 7),)))),
                      ("all", many, ((((), ()), ()), (((7,), (7,)), ((0, 8),)))),
                      ("all", many, ((((), ()), ()), (((7,), (7,)), ((1, 7),)))),
                      ("all", many, ((((), ()), ()), (((7,), (7,)), ()))),
                      ("all", many, ((((), ()), ()), (((7, 7), (7,)), ((0, 7),)))), (), "all", ("all",)):
            self.shows(thing, False)

    def test_of_another_most(self):
        told = weavings(World((1, 2)), ((ASK, OFFER), ()))
        self.shows(told, True, most=told[1])
        self.shows(told, False, most=told[1] - 1)
        self.shows(("open", 3), False)
        self.shows(("open", 3), False, most=4)
        self.shows(("open", 300), False)
        self.shows(("open", told[1]), False, most=told[1])

    def test_truths_and_lists(self):
        world, plans = led((1,), ("ask", 0, 1), ("offer", 0, 0, 1), ("offer", 0, 1, 0)), ((),)
        told = ("all", 1, ((((1, 0),), ((0, 1), (1, 0))),))
        self.is_told(weavings(world, plans), told)
        self.assertIs(shows_weavings(world, plans, told), True)
        for thing in (("all", True, told[2]), ("all", 1, ((((True, 0),), ((0, 1), (1, 0))),)),
                      ("all", 1, ((((1, False),), ((0, 1), (1, 0))),)),
                      ("all", 1, ((((1, 0),), ((False, 1), (1, 0))),)),
                      ("all", 1, ((((1, 0),), ((0, True), (1, 0))),)), ["all", 1, told[2]], ("all", 1, list(told[2])),
                      ("all", 1, ([((1, 0),), ((0, 1), (1, 0))],)), ("all", 1, ((((1, 0),), [(0, 1), (1, 0)]),)),
                      ("all", 1, ((([1, 0],), ((0, 1), (1, 0))),)), ("all", "1", told[2]), ("all", None, told[2])):
            self.assertIs(shows_weavings(world, plans, thing), False)
        self.assertIs(shows_weavings(world, plans, ("open", False), most=0), False)
        self.assertIs(shows_weavings(world, plans, ("open", 0), most=0), True)
        self.assertIs(shows_weavings(world, ((("rise",),),), ("open", True), most=1), False)

    def test_things_of_any_kind(self):
        told = weavings(World((1, 2)), ((ASK, OFFER), ()))
        for thing in ODD + DEEPEST + [(), 10 ** 6000, -10 ** 6000, ("all", 10 ** 6000, told[2])]:
            before = copy.deepcopy(thing)
            world, plans = World((1, 2)), ((ASK, OFFER), ())
            if thing == ((), ()) or (thing == told[1] and not isinstance(thing, bool)):
                continue
            for whole in (thing, ("all", thing, told[2]), ("all", told[1], thing), (thing, told[1], told[2]),
                          ("all", told[1], told[2][:1] + (thing,)), ("all", told[1], (thing,) + told[2][1:]),
                          ("all", told[1], ((thing, ()),) + told[2][1:])):
                self.assertIs(shows_weavings(world, plans, whole), False)
            self.assertTrue(thing == before)


class InAllWeavings(WorldCase):
    """What the whole promises, behind each step of all weavings of small worlds."""

    WORLDS = (
        ((2, 1), (), ((ASK, OFFER), (ASK, ("offer", 0, 8)))),
        ((2, 1), (), ((ASK, ("give", 1, ((0, 1),)), OFFER), ())),
        ((1, 2), (("ask", 0, 1),), ((OFFER,), (("give", 0, ((1, 1),)), ("fall",), ("rise",)))),
        ((1, 1, 1), (), ((ASK, OFFER), (), ())),
        ((1, 1, 1), (), ((ASK,), (("give", 2, ((1, 1),)),), ())),
    )

    def test_at_each_step(self):
        for shares, deeds, plans in self.WORLDS:
            world = led(shares, *deeds)
            self.walk(Going(world, plans), world, (0,) * len(plans))

    def walk(self, going, world, done):
        """Each step of all weavings once."""
        waiting, seen = [(world, done)], set()
        while waiting:
            world, done = waiting.pop()
            if going.key(world, done) in seen:
                continue
            seen.add(going.key(world, done))
            watch = Watch(self)
            watch.look(world)
            for behind in going.behind(world, done):
                watch.copy().look(behind[0])
                waiting.append(behind)
        self.assertEqual(len(seen), len(going.states))

    def test_a_hand_with_more_than_half_chooses_alone(self):
        for shares, deeds, plans in (((3, 1, 1), (), ((ASK, OFFER), (), ())),
                                     ((3, 2), (), ((ASK, OFFER), (("ask", 1),))),
                                     ((2, 1), (("ask", 1, 1),), ((("ask", 2), OFFER), (("offer", 0, 8),))),
                                     ((2, 1), (), ((ASK, OFFER, ("offer", 1, 8)), (("give", 0, ((2, 2),)),)))):
            number = plans[0][0][1]
            going = Going(led(shares, *deeds), plans)
            alone = 0
            for (_, _, done), world in going.states.items():
                hand = world.hand(0)
                heard = max([hand.book()[2]] + [slip[0] for _, _, slip in hand.book()[1]])
                if done[0] == 1 and heard <= (number, 0):
                    alone += 1
                    world = world.copy()
                    while world.road():
                        world.do(("lose", 0))
                    row = len(world.hand(0).book()[6])
                    word = world.do(("offer", 0, row, 7))
                    self.assertEqual(world.hand(0).book()[6][row:], (word,))
                    self.assertEqual(dict(world.chosen())[row], word)
            self.assertGreater(alone, 5)
