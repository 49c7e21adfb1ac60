from ridingvotes.choosing import can_choose
from ridingvotes.errors import FarRow
from tests.hand_case import parts_of
from tests.plain_world import PlainWorld
from tests.promises import Watch
from tests.walks import SHARES, Walk, outcome
from tests.world_case import WorldCase, all_told


def state(world):
    return [(hand.book(), hand.mind()) for hand in (world.hand(name) for name in range(world.hands()))]


def rows_known(world, name):
    """A dict of all that the hand knows, beyond a gap, too."""
    book = parts_of(world.hand(name))
    return dict(enumerate(book["known"])) | dict(book["more"])


def first_row(world, name):
    return len(parts_of(world.hand(name))["known"])


def last_row(world):
    """The greatest row that any point took or any hand knows, -1 without one."""
    rows = [row for row, _, _, _ in world.took()]
    for name in range(world.hands()):
        rows += rows_known(world, name)
    for _, _, _, (_, taken), _ in world.spots():
        rows += [row for row, _, _ in taken]
    return max(rows, default=-1)


class AsPlainWorlds(WorldCase):
    def test_each_deed_does_what_a_plain_world_does(self):
        refusals = set()
        for seed in range(60):
            walk = Walk(seed)
            plain = PlainWorld(SHARES[seed % len(SHARES)])
            for at in range(250):
                deed, told = walk.step()
                self.is_told(told, outcome(lambda: plain.do(deed)))
                refusals.add(told[0])
                self.alike(walk.world, plain, at % 5 == 0)
        self.assertLessEqual({"told", "OldBallot", "NoHand", "NoDeed", "NoLetter", "NoWord", "FarRow", "NotMost",
                              "NotHeld", "NoLot", "Fallen", "Standing"}, refusals)

    def alike(self, world, plain, all_of_it):
        self.is_told(world.road(), plain.road())
        self.assertEqual(len(world), len(plain.letters))
        self.is_told(state(world), [(hand.book(), hand.mind()) for hand in plain.members])
        if all_of_it:
            self.is_told(world.spots(), plain.spots())
            self.is_told(world.greatest(), plain.greatest())
            self.is_told(world.took(), plain.took())
            self.is_told(world.chosen(), plain.chosen())

    def test_settle_as_plain_worlds(self):
        for seed in range(100, 140):
            walk = Walk(seed)
            plain = PlainWorld(SHARES[seed % len(SHARES)])
            for at in range(60):
                deed, told = walk.step()
                if told[0] == "told":
                    plain.do(deed)
                if at % 20 == 0:
                    hands = tuple(walk.dice.sample(walk.names, walk.dice.randrange(len(walk.names) + 1)))
                    self.is_told(outcome(lambda: walk.world.settle(hands)), outcome(lambda: plain.settle(hands)))
                    self.alike(walk.world, plain, True)

    def test_refusals_change_nothing(self):
        for seed in range(20):
            walk = Walk(seed)
            for _ in range(150):
                before = repr(all_told(walk.world))
                _, told = walk.step()
                if told[0] != "told":
                    self.assertEqual(repr(all_told(walk.world)), before)

    def test_the_same_history_twice(self):
        for seed in range(20):
            one, other = Walk(seed), Walk(seed)
            for _ in range(150):
                self.is_told(one.step(), other.step())
            self.assertTrue(one.world == other.world)
            self.assertEqual(repr(all_told(one.world)), repr(all_told(other.world)))


class AtEachMoment(WorldCase):
    def test_one_place_slips_grow_one_word_kept_in_mind_shown(self):
        rows = 0
        for seed in range(1000, 1060):
            walk, watch = Walk(seed), Watch(self)
            for _ in range(200):
                walk.step()
                watch.look(walk.world)
            rows += len(watch.words)
        # Else nothing would have been watched.
        self.assertGreater(rows, 150)

    def test_in_one_long_history(self):
        walk, watch = Walk(7, (2, 3, 2, 2)), Watch(self)
        for _ in range(2500):
            walk.step()
        for _ in range(100):
            walk.step()
            watch.look(walk.world)
        self.assertGreater(len(watch.words), 10)


class GoingOn(WorldCase):
    def led_some(self, seed, steps=120):
        walk = Walk(seed, SHARES[seed % 7])
        for _ in range(steps):
            walk.step()
        return walk

    def up_with_most(self, walk):
        """Some hands that can choose, all of which are up then; the others stay as they are."""
        names = walk.dice.sample(walk.names, len(walk.names))
        hands = []
        while not can_choose(walk.world, tuple(hands)):
            hands.append(names.pop())
        for name in hands:
            if walk.world.hand(name).mind() is None:
                walk.world.do(("rise", name))
        return hands

    def pass_points(self, walk, hands):
        """One of the hands passes some points to another one."""
        giver = walk.dice.choice(hands)
        others = [name for name in hands if name != giver]
        _, lot = walk.parts_of_give(giver)
        if others and lot:
            walk.world.do(("give", giver, walk.dice.choice(others), lot))

    def let_come(self, walk, hands):
        """One letter among the hands comes, any of them; each does again where none is left."""
        between = [at for at, letter in enumerate(walk.world.road()) if letter[1] in hands and letter[2] in hands]
        if between:
            walk.world.do(("come", walk.dice.choice(between)))
        else:
            for name in hands:
                walk.world.do(("again", name))

    def go_on(self, walk, hands, is_done, passes=6):
        """Letters come, points are passed, until it is done; not without end."""
        for at in range(3000):
            if is_done():
                return
            if passes and walk.dice.random() < 0.1:
                passes -= 1
                self.pass_points(walk, hands)
            self.let_come(walk, hands)
            if len(walk.world) > 300:
                at = walk.dice.randrange(len(walk.world))
                letter = walk.world.road()[at]
                if letter[1] not in hands or letter[2] not in hands:
                    walk.world.do(("lose", at))
        self.fail("it doesn't go on")

    def has_most(self, world, name):
        gathered = world.hand(name).mind()[0]
        return 2 * sum(last - first + 1 for first, last, _ in gathered) > world.points()

    def test_going_on(self):
        many = 0
        for seed in range(4000, 4070):
            walk = self.led_some(seed)
            world = walk.world
            hands = self.up_with_most(walk)
            asker = walk.dice.choice(hands)
            ballot = (world.greatest()[0] + 1, asker)
            world.do(("ask", asker, ballot[0]))
            self.go_on(walk, hands, lambda: all(world.hand(name).book()[2] == ballot for name in hands))
            if not can_choose(world, tuple(hands)):
                continue
            self.go_on(walk, hands, lambda: self.has_most(world, asker))
            row = first_row(world, asker) + walk.dice.choice((0, 0, 1, 3))
            if row in rows_known(world, asker):
                continue
            word = world.do(("offer", asker, row, 9))

            def is_heard(name):
                return row in dict(world.hand(name).book()[3]) or row in rows_known(world, name)

            self.go_on(walk, hands, lambda: all(is_heard(name) for name in hands), passes=2)
            if can_choose(world, tuple(hands)):
                self.go_on(walk, hands, lambda: row in rows_known(world, asker))
                self.assertEqual(rows_known(world, asker)[row], word)
                self.assertIn((row, word), world.chosen())
                many += 1
        self.assertGreater(many, 40)

    def test_alone(self):
        many = 0
        for seed in range(5000, 5040):
            walk = Walk(seed, ((7, 2, 2), (5, 1, 1, 1), (9, 4), (6, 0, 5))[seed % 4])
            for _ in range(150):
                walk.step()
                for name in walk.names:
                    many += self.chooses_alone(walk.world, name)
        self.assertGreater(many, 500)

    def chooses_alone(self, world, name):
        """Whether the hand has more than half; then a copy of the world is asked whether it chooses alone."""
        parts = parts_of(world.hand(name))
        if parts["gathered"] == "down" or 2 * world.hand(name).held() <= world.points():
            return False
        world = world.copy()
        ahead = max([parts["heard"]] + [slip[0] for _, _, slip in parts["holding"]])
        # The least number by which its ballot is no lesser one than these.
        number = max(parts["number"] + 1, ahead[0] + (ahead[1] > name))
        world.do(("ask", name, number))
        row = first_row(world, name) + (number % 2)
        if row in rows_known(world, name):
            return False
        word = world.do(("offer", name, row, 7))
        self.assertEqual(rows_known(world, name)[row], word)
        self.assertEqual(dict(world.chosen())[row], word)
        return True

    def test_told_at_last(self):
        rows = 0
        for seed in range(6000, 6090):
            walk = Walk(seed)
            for _ in range(30 + seed % 200):
                walk.step()
            world, names = walk.world, tuple(walk.names)
            for name in names:
                if world.hand(name).mind() is None:
                    world.do(("rise", name))
            asker = walk.dice.choice(names)
            world.do(("ask", asker, world.greatest()[0] + 1))
            self.let_all_come(walk)
            rows += self.offer_all(world, asker, last_row(world) + 1)
            self.assertEqual(len({world.hand(name).book()[6] for name in names}), 1)
            self.assertEqual({world.hand(name).book()[7] for name in names}, {()})
            self.assertEqual(dict(enumerate(world.hand(asker).book()[6])), dict(world.chosen()))
        self.assertGreater(rows, 100)

    def let_all_come(self, walk):
        """All letters come, in any order, each hand doing again, until no outbox has a parcel."""
        while walk.world.road() or any(walk.world.hand(name).book()[8] for name in walk.names):
            if not walk.world.road():
                for name in walk.names:
                    walk.world.do(("again", name))
            while walk.world.road():
                walk.world.do(("come", walk.dice.randrange(len(walk.world))))

    def offer_all(self, world, asker, last):
        """Each row up to the last one is offered as soon as may be; letters come first sent first. How many rows."""
        many = 0
        for row in range(first_row(world, asker), last + 1):
            while row not in rows_known(world, asker):
                try:
                    world.do(("offer", asker, row, 9))
                    many += 1
                    break
                except FarRow:
                    world.do(("come", 0))
        while world.road():
            world.do(("come", 0))
        return many

    def test_told_at_last_beyond_the_rows_that_may_be_offered_at_once(self):
        walk = Walk(1, (3, 3, 3))
        world = walk.world
        for times in range(4):
            world.do(("ask", 0, world.greatest()[0] + 1))
            world.settle((0, 1, 2))
            world.do(("offer", 0, first_row(world, 0) + 19, 5))
            world.settle((0, 1, 2))
            while world.road():
                world.do(("lose", 0))
            asker = times % 3
            world.do(("ask", asker, world.greatest()[0] + 1))
            self.let_all_come(walk)
            self.assertGreaterEqual(self.offer_all(world, asker, last_row(world) + 5), 24)
            self.assertEqual(len({world.hand(name).book()[6] for name in range(3)}), 1)
