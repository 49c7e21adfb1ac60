"""Worlds led by a seed: deeds of all kinds, some of which are refused."""

import random

from ridingvotes.errors import Missing, VoteError
from ridingvotes.worlds import World
from tests.things import lot_by_points

DEEDS = ("come",) * 60 + ("ask",) * 3 + ("offer",) * 11 + ("give",) * 8 + ("again",) * 4 + ("lose",) * 3 + (
    "double",) * 4 + ("fall",) * 2 + ("rise",) * 5 + ("odd",)
SHARES = ((3, 3, 3), (2, 2, 1), (5, 0), (4, 3), (1, 2, 3, 1), (7,), (0, 0, 5), (1, 1, 1, 1, 1), (6, 1, 1), (1,) * 8)


def outcome(question):
    """What is told, or which refusal with which values."""
    try:
        return ("told", question())
    except (VoteError, Missing) as refusal:
        return (refusal.__class__.__name__, vars(refusal))


class Walk:
    """Chooses deeds for a world, which it leads itself; the same for the same seed."""

    def __init__(self, seed, shares=None):
        self.dice = random.Random(seed)
        self.world = World(shares or SHARES[seed % len(SHARES)])
        self.names = range(self.world.hands())

    def step(self):
        """Does a deed: told is (deed, outcome)."""
        deed = self.next_deed()
        return (deed, outcome(lambda: self.world.do(deed)))

    def next_deed(self):
        many = len(self.world)
        if many > 40:
            return ("lose", self.dice.randrange(many))
        word = self.dice.choice(DEEDS)
        if word == "odd" or (many == 0 and word in ("come", "lose", "double")):
            return self.odd_deed()
        if word in ("come", "lose", "double"):
            # Mostly the letters come as they were sent, else nothing would ever be chosen.
            return (word, self.dice.randrange(many) if self.dice.random() < 0.4 else 0)
        names = self.with_most() if word == "offer" else []
        name = self.dice.choice(names or list(self.names))
        return (word, name) + getattr(self, "parts_of_" + word, lambda name: ())(name)

    def with_most(self):
        """The names of hands that may offer."""
        found = []
        for name in self.names:
            mind = self.world.hand(name).mind()
            if mind is not None and mind[0] is not None:
                if 2 * sum(last - first + 1 for first, last, _ in mind[0]) > self.world.points():
                    found.append(name)
        return found

    def parts_of_ask(self, name):
        greatest = max(self.world.hand(other).book()[4] for other in self.names)
        return (max(greatest + 1 - self.dice.randrange(2), self.world.hand(name).book()[4] + 1),)

    def parts_of_offer(self, name):
        known = len(self.world.hand(name).book()[6])
        return (known + self.dice.choice((0, 0, 0, 0, 1, 1, 2, 3)), self.dice.randrange(4))

    def parts_of_give(self, name):
        points = [point for first, last, _ in self.world.hand(name).book()[1] for point in range(first, last + 1)]
        lot = lot_by_points(self.dice.sample(points, self.dice.randrange(len(points) + 1)))
        return (self.dice.choice([to for to in self.names if to != name] or [0]), lot)

    def odd_deed(self):
        """A deed that is refused, mostly."""
        name, many, points = self.dice.choice(self.names), len(self.names), self.world.points()
        number, road = self.world.hand(name).book()[4], len(self.world)
        return self.dice.choice((
            ("ask", name, number), ("ask", name, True), ("ask", many, number + 1), ("ask", None, None), ("ask", name),
            ("offer", name, 0, None), ("offer", name, -1, 0), ("offer", name, 21, 1), ("offer", -1, 0, None),
            ("give", name, name, ((0, 0),)), ("give", name, (name + 1) % many, ()), ("give", name, many, ()),
            ("give", name, (name + 1) % many, ((0, points),)), ("give", name, (name + 1) % many, [(0, 0)]),
            ("come", road), ("come", -1), ("come", True), ("lose", road), ("double", None), ("again", (name,)),
            ("fall", many), ("rise", "0"), ("rise", name), (), ("none", name), ["again", name], None, ("come",)))
