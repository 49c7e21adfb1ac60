import itertools

from ridingvotes.choosing import blockers, can_choose, least_choosers
from tests.plain_world import PlainWorld
from tests.things import LONG
from tests.walks import SHARES, Walk
from tests.world_case import WorldCase, all_told, led


def all_sets(many):
    return [hands for size in range(many + 1) for hands in itertools.combinations(range(many), size)]


def least(sets):
    """Those of the sets that have none of the others within them."""
    return tuple(sorted(one for one in sets if not any(set(other) < set(one) for other in sets)))


class CanChoose(WorldCase):
    def can(self, world, *sets):
        """Just these rising tuples of hands can, in whatever order they are handed in."""
        before = repr(all_told(world))
        for hands in all_sets(world.hands()):
            for order in itertools.permutations(hands):
                self.assertIs(can_choose(world, order), hands in sets)
        self.assertEqual(repr(all_told(world)), before)

    def test_by_the_points_with_them(self):
        self.can(led((3, 3, 3)), (0, 1), (0, 2), (1, 2), (0, 1, 2))
        self.can(led((5, 2, 2)), (0,), (0, 1), (0, 2), (0, 1, 2))
        self.can(led((5,)), (0,))
        self.can(led((0, 1)), (1,), (0, 1))

    def test_just_half(self):
        self.can(led((4, 2, 2)), (0, 1), (0, 2), (0, 1, 2))
        self.can(led((2, 2)), (0, 1))
        self.can(led((LONG, LONG)), (0, 1))
        self.can(led((LONG + 1, LONG)), (0,), (0, 1))

    def test_parcels_between_two_of_them(self):
        world = led((3, 3, 3), ("give", 0, 1, ((0, 2),)))
        self.can(world, (0, 1), (1, 2), (0, 1, 2))
        world = led((4, 1, 1, 1), ("give", 0, 1, ((0, 0),)), ("give", 0, 2, ((2, 3),)))
        self.can(world, (0, 2), (0, 1, 2), (0, 1, 3), (0, 2, 3), (0, 1, 2, 3))
        # The parcels as such count, not their letters.
        world.do(("lose", 0))
        world.do(("double", 0))
        self.can(world, (0, 2), (0, 1, 2), (0, 1, 3), (0, 2, 3), (0, 1, 2, 3))

    def test_a_parcel_that_was_taken_is_with_the_taker(self):
        world = led((3, 3, 3), ("give", 0, 1, ((0, 2),)), ("come", 0))
        self.can(world, (1,), (0, 1), (1, 2), (0, 1, 2))

    def test_hands_that_are_down(self):
        world = led((3, 3, 3), ("fall", 0), ("fall", 1))
        self.can(world, (0, 1), (0, 2), (1, 2), (0, 1, 2))

    def test_all_points_in_one_parcel(self):
        self.can(led((3, 0, 0), ("give", 0, 1, ((0, 2),))), (0, 1), (0, 1, 2))

    def test_by_names(self):
        self.assertIs(can_choose(hands=(1, 0), world=led((3, 3, 3))), True)
        self.assertIs(can_choose(hands=(), world=led((3, 3, 3))), False)


class Least(WorldCase):
    def test_least_choosers(self):
        self.is_told(least_choosers(led((3, 3, 3))), ((0, 1), (0, 2), (1, 2)))
        self.is_told(least_choosers(led((5, 2, 2))), ((0,),))
        self.is_told(least_choosers(led((4, 2, 2))), ((0, 1), (0, 2)))
        self.is_told(least_choosers(led((0, 5, 0, 0))), ((1,),))
        self.is_told(least_choosers(led((1, 1, 1, 2))), ((0, 1, 2), (0, 3), (1, 3), (2, 3)))
        self.is_told(least_choosers(led((7,))), ((0,),))

    def test_blockers(self):
        self.is_told(blockers(led((3, 3, 3))), ((0, 1), (0, 2), (1, 2)))
        self.is_told(blockers(led((5, 2, 2))), ((0,),))
        self.is_told(blockers(led((4, 2, 2))), ((0,), (1, 2)))
        self.is_told(blockers(led((2, 2))), ((0,), (1,)))
        self.is_told(blockers(led((0, 5, 0, 0))), ((1,),))
        self.is_told(blockers(led((1, 1, 1, 2))), ((0, 1, 2), (0, 3), (1, 3), (2, 3)))
        self.is_told(blockers(led((7,))), ((0,),))

    def test_with_parcels(self):
        world = led((4, 1, 1, 1), ("give", 0, 1, ((0, 0),)), ("give", 0, 2, ((2, 3),)))
        self.is_told(least_choosers(world), ((0, 1, 3), (0, 2)))
        self.is_told(blockers(world), ((0,), (1, 2), (2, 3)))

    def test_of_eight_hands(self):
        world = led((LONG,) * 8)
        self.is_told(least_choosers(world), tuple(itertools.combinations(range(8), 5)))
        self.is_told(blockers(world), tuple(itertools.combinations(range(8), 4)))

    def test_rising(self):
        world = led((1, 2, 1, 3, 1, 1))
        for told in (least_choosers(world), blockers(world)):
            self.assertEqual(list(told), sorted(told))
            self.assertEqual([hands for hands in told if list(hands) != sorted(hands)], [])
        self.is_told(least_choosers(world), ((0, 1, 2, 4), (0, 1, 2, 5), (0, 1, 4, 5), (0, 2, 3), (0, 3, 4), (0, 3, 5),
                                             (1, 2, 4, 5), (1, 3), (2, 3, 4), (2, 3, 5), (3, 4, 5)))

    def test_by_name(self):
        world = led((3, 3, 3))
        self.is_told(least_choosers(world=world), blockers(world=world))

    def test_in_histories(self):
        for seed in range(24):
            walk = Walk(seed)
            plain = PlainWorld(SHARES[seed % len(SHARES)])
            for at in range(100):
                deed, (kind, _) = walk.step()
                if kind == "told":
                    plain.do(deed)
                if at % 5 == 0 and (seed % 10 != 9 or at % 25 == 0):
                    self.ask_all(walk.world, plain)

    def ask_all(self, world, plain):
        before = repr(all_told(world))
        names = tuple(range(world.hands()))
        can = {hands: plain.can_choose(hands) for hands in all_sets(len(names))}
        for hands in can:
            self.assertIs(can_choose(world, hands), can[hands])
        self.is_told(least_choosers(world), least([hands for hands in can if can[hands]]))
        self.is_told(blockers(world), least(
            [hands for hands in can if not can[tuple(name for name in names if name not in hands)]]))
        self.assertEqual(repr(all_told(world)), before)
