from ridingvotes.errors import Fallen, NoHand
from tests.things import DEEPEST, ODD
from tests.walks import Walk
from tests.world_case import ASKED, WorldCase, all_told, led


def by_hand(world, hands):
    """Settles the world step by step: how many letters came."""
    for name in hands:
        world.do(("again", name))
    many = 0
    while True:
        between = [at for at, letter in enumerate(world.road()) if {letter[1], letter[2]} <= set(hands)]
        if not between:
            return many
        world.do(("come", between[0]))
        many += 1


class Settle(WorldCase):
    def test_of_all(self):
        world = led((3, 3, 3), ("ask", 0, 1), ("lose", 0), ("lose", 0))
        self.is_told(world.settle((0, 1, 2)), 4)
        self.is_told(world.road(), ())
        self.is_told(world.do(("offer", 0, 0, 7)), 7)
        self.is_told(world.settle((2, 0, 1)), 14)
        self.is_told([world.hand(name).book()[6] for name in range(3)], [(7,)] * 3)

    def test_of_none(self):
        world = led((3, 3, 3), ("ask", 0, 1), ("fall", 2))
        before = repr(all_told(world))
        self.is_told(world.settle(()), 0)
        self.assertEqual(repr(all_told(world)), before)

    def test_of_one(self):
        world = led((3, 3, 3), ("ask", 0, 1))
        self.is_told(world.settle((0,)), 0)
        self.is_told(world.road(), led((3, 3, 3), ("ask", 0, 1), ("again", 0)).road())
        self.is_told(led((5,), ("ask", 0, 1)).settle((0,)), 0)

    def test_where_nothing_is_to_come(self):
        self.is_told(led((3, 3, 3)).settle((0, 1, 2)), 0)

    def test_of_some(self):
        """Letters to and from others stay, in order."""
        world = led((2, 2, 2, 2), ("ask", 3, 1), ("ask", 0, 2), ("give", 2, 1, ((5, 5),)), ("give", 1, 2, ((3, 3),)))
        others = tuple(letter for letter in world.road() if letter[1] == 3 or 3 in letter[1:3] or letter[1] == 2)
        many = world.settle((0, 1))
        # Once the first asking, and once the one of doing again, each with its telling.
        self.is_told(many, 4)
        stay = tuple(letter for letter in world.road() if letter in others)
        self.is_told([letter[:3] for letter in stay[:6]],
                     [("ask", 3, 0), ("ask", 3, 1), ("ask", 3, 2), ("ask", 0, 3), ("parcel", 2, 1), ("ask", 0, 3)])
        self.assertFalse([letter for letter in world.road() if {letter[1], letter[2]} <= {0, 1}])
        self.is_told(world.hand(0).mind()[0][0][:2], (0, 2))

    def test_in_another_order(self):
        deeds = (("ask", 0, 1), ("lose", 0), ("lose", 0), ("ask", 1, 1), ("lose", 0), ("lose", 0))
        one, other = led((3, 3, 3), *deeds), led((3, 3, 3), *deeds)
        one.settle((0, 1, 2))
        other.settle((1, 0, 2))
        # Where hand 0 asks first all promise it ahead of the greater one; else it only hears that it is late.
        self.is_told(one.hand(0).mind()[0][-1][1], 8)
        self.is_told(other.hand(0).mind()[0], ((0, 2, ((1, 0), ())),))
        self.is_told(other.hand(0).mind()[3], (1, 1))

    def test_the_first_letter_comes_first(self):
        for seed in range(60):
            walk = Walk(seed)
            for _ in range(80):
                walk.step()
            world = walk.world
            up = [name for name in walk.names if world.hand(name).mind() is not None]
            walk.dice.shuffle(up)
            hands = tuple(up[:walk.dice.randrange(len(up) + 1)])
            other = world.copy()
            self.is_told(world.settle(hands), by_hand(other, hands))
            self.assertTrue(world == other)

    def test_others_may_be_down(self):
        world = led((3, 3, 3), ("ask", 0, 1), ("fall", 2))
        self.is_told(world.settle((0, 1)), 4)
        self.is_told(world.road(), (("ask", 0, 2, (1, 0), 0),) * 2)

    def test_by_name(self):
        self.is_told(led((3, 3), ("ask", 0, 1)).settle(hands=(1, 0)), 4)


class Refused(WorldCase):
    def test_no_tuple(self):
        world = led((3, 3, 3), *ASKED)
        for thing in [thing for thing in ODD + DEEPEST if not isinstance(thing, tuple)] + [[0, 1], {0, 1}, "01"]:
            self.refused(world, NoHand, thing, world.settle, thing)

    def test_parts_that_are_no_hands(self):
        world = led((3, 3, 3), *ASKED)
        for thing in [3, -1, True, False, None, "0", (0,), [0], {}, (), [], ((),)]:
            self.refused(world, NoHand, thing, world.settle, (thing,))
            self.refused(world, NoHand, thing, world.settle, (0, thing))
            self.refused(world, NoHand, thing, world.settle, (2, 0, thing, 9))
        for thing in ODD + DEEPEST:
            if thing not in (0, 1) or isinstance(thing, bool):
                self.refused(world, NoHand, thing, world.settle, hands=(1, thing, 1))

    def test_that_stand_ahead_already(self):
        world = led((3, 3, 3), *ASKED)
        self.refused(world, NoHand, 0, world.settle, (0, 0))
        self.refused(world, NoHand, 1, world.settle, (0, 1, 2, 1, 0, 5))
        self.refused(world, NoHand, 7, world.settle, (0, 7, 0))
        self.refused(world, NoHand, 0, world.settle, (0, 0, 7))

    def test_that_are_down(self):
        world = led((3, 3, 3), *ASKED, ("fall", 1), ("fall", 2))
        self.refused(world, Fallen, 1, world.settle, (0, 1, 2))
        self.refused(world, Fallen, 2, world.settle, (2, 1))
        self.refused(world, Fallen, 2, world.settle, (2,))

    def test_no_hand_ahead_of_fallen(self):
        world = led((3, 3, 3), *ASKED, ("fall", 1))
        self.refused(world, NoHand, 3, world.settle, (1, 3))
        self.refused(world, NoHand, 1, world.settle, (1, 1))
        self.refused(world, NoHand, [1], world.settle, [1])
        self.refused(world, NoHand, True, world.settle, (1, True))

    def test_refused_it_goes_on(self):
        world = led((3, 3, 3), ("ask", 0, 1))
        self.refused(world, NoHand, 0, world.settle, (0, 1, 0))
        self.is_told(world.settle((0, 1)), 4)
