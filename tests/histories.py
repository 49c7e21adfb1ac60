"""Hands with a road between them, led by a seed: each deed of the package's hands is done by plain hands, too."""

import random

from ridingvotes.errors import Missing, VoteError
from ridingvotes.hands import Hand
from ridingvotes.slips import FRESH
from tests.plain_hand import PlainHand

DEEDS = ("come",) * 60 + ("ask",) * 3 + ("offer",) * 10 + ("give",) * 7 + ("again",) * 4 + ("lose",) * 3 + (
    "double",) * 4 + ("fall",) * 2 + ("rise",) * 4 + ("odd",) * 2


def outcome(deed):
    """What is told, or which refusal with which values."""
    try:
        return ("told", deed())
    except (VoteError, Missing) as refusal:
        return (refusal.__class__.__name__, vars(refusal))


def state(hand):
    return (hand.book(), hand.mind())


class History:
    def __init__(self, seed, shares, plain=True):
        self.dice = random.Random(seed)
        self.all = sum(shares)
        self.hands, self.plain, first = [], [], 0
        for name, share in enumerate(shares):
            holding = ((first, first + share - 1, FRESH),) if share else ()
            self.hands.append(Hand(name, len(shares), self.all, holding))
            if plain:
                self.plain.append(PlainHand(name, len(shares), self.all, holding))
            first += share
        self.road = []

    def do(self, name, method, *parts):
        """Does a deed of a hand, its letters behind the road; what came of it, and of the plain hand's deed."""
        told = outcome(lambda: getattr(self.hands[name], method)(*parts))
        plain = outcome(lambda: getattr(self.plain[name], method)(*parts)) if self.plain else None
        if told[0] == "told":
            self.road.extend(told[1][1] if method == "offer" else told[1])
        return (told, plain)

    def come(self, at=0):
        letter = self.road.pop(at)
        if self.hands[letter[2]].mind() is not None:
            return (letter[2],) + self.do(letter[2], "hear", letter)
        return None

    def step(self):
        """One thing of any kind: None, or (name, told, plain) where a hand was asked to do something."""
        if len(self.road) > 40:
            del self.road[self.dice.randrange(len(self.road))]
        deed = self.dice.choice(DEEDS)
        if deed in ("come", "lose", "double"):
            return self.step_road(deed)
        name = self.dice.randrange(len(self.hands))
        if deed == "offer":
            name = self.dice.choice(self.with_most() or [name])
        parts = getattr(self, "parts_of_" + deed)(name)
        if deed == "odd":
            deed, *parts = parts
        return (name,) + self.do(name, deed, *parts)

    def step_road(self, deed):
        if not self.road:
            return None
        # Mostly the letters come as they were sent, else nothing would ever be chosen.
        at = self.dice.randrange(len(self.road)) if self.dice.random() < 0.4 else 0
        if deed == "come":
            return self.come(at)
        if deed == "lose":
            self.road.pop(at)
        else:
            self.road.append(self.road[at])
        return None

    def with_most(self):
        """The names of hands that may offer."""
        found = []
        for hand in self.hands:
            mind = hand.mind()
            if mind is not None and mind[0] is not None:
                if 2 * sum(last - first + 1 for first, last, _ in mind[0]) > self.all:
                    found.append(hand.book()[0])
        return found

    def parts_of_ask(self, name):
        greatest = max(hand.book()[4] for hand in self.hands)
        return [max(greatest + 1 - self.dice.randrange(2), self.hands[name].book()[4] + 1)]

    def parts_of_offer(self, name):
        return [len(self.hands[name].book()[6]) + self.dice.choice((0, 0, 0, 0, 1, 1, 2, 3)), self.dice.randrange(4)]

    def parts_of_give(self, name):
        points = [point for first, last, _ in self.hands[name].book()[1] for point in range(first, last + 1)]
        points = sorted(self.dice.sample(points, self.dice.randrange(len(points) + 1)))
        lot = []
        for point in points:
            if lot and lot[-1][1] == point - 1:
                lot[-1] = (lot[-1][0], point)
            else:
                lot.append((point, point))
        others = [to for to in range(len(self.hands)) if to != name]
        return [self.dice.choice(others or [0]), tuple(lot)]

    def parts_of_again(self, name):
        return []

    parts_of_fall = parts_of_rise = parts_of_again

    def parts_of_odd(self, name):
        """A deed that may be refused."""
        number = self.hands[name].book()[4]
        return self.dice.choice((
            ("ask", number), ("ask", number - 1), ("ask", True), ("ask", None), ("ask", (number + 1,)),
            ("offer", -1, 0), ("offer", 0, 0), ("offer", 1, 0), ("offer", 2, 0), ("offer", 19, 1), ("offer", 20, 1),
            ("offer", 21, 1), ("offer", 25, 1), ("offer", None, 0), ("offer", (0,), 0), ("offer", True, 0),
            ("give", name, ((0, 0),)), ("give", len(self.hands), ((0, 0),)), ("give", -1, ()), ("give", None, ()),
            ("give", (name + 1) % len(self.hands), ((0, self.all),)), ("give", True, ()),
            ("give", (name + 1) % len(self.hands), ((0, 0),)), ("give", (name + 1) % len(self.hands), ()),
            ("give", (name + 1) % len(self.hands), [(0, 0)]), ("give", (name + 1) % len(self.hands), ((1, 0),))))
