"""A world told point by point, as plainly as the document tells it: what the package's worlds are held against."""

import copy

from ridingvotes.errors import Fallen, NoDeed, NoHand, NoLetter, NoWord
from tests.plain_hand import NONE, PlainHand, holding_of, lot_points, points_of, whole
from tests.things import lot_by_points

LENGTHS = {"ask": 3, "offer": 4, "give": 4, "again": 2, "fall": 2, "rise": 2, "come": 2, "lose": 2, "double": 2}


class PlainWorld:
    def __init__(self, shares):
        self.all = sum(shares)
        self.members, begin = [], 0
        for name, share in enumerate(shares):
            holding = ((begin, begin + share - 1, (NONE, ())),) if share else ()
            self.members.append(PlainHand(name, len(shares), self.all, holding))
            begin += share
        self.letters = []

    def copy(self):
        return copy.deepcopy(self)

    def road(self):
        return tuple(self.letters)

    def must_be_hand(self, thing):
        if not whole(thing) or thing >= len(self.members):
            raise NoHand(thing)

    def do(self, deed):
        if type(deed) is not tuple or not deed or type(deed[0]) is not str or LENGTHS.get(deed[0]) != len(deed):
            raise NoDeed(deed)
        word, at, *parts = deed
        if word in ("come", "lose", "double"):
            return self.do_on_road(word, at)
        self.must_be_hand(at)
        hand = self.members[at]
        if word == "offer" and hand.up and not whole(parts[1]):
            raise NoWord(parts[1])
        told = getattr(hand, word)(*parts)
        self.letters += told[1] if word == "offer" else told
        return told[0] if word == "offer" else None

    def do_on_road(self, word, at):
        if not whole(at) or at >= len(self.letters):
            raise NoLetter(at)
        letter = self.letters[at]
        if word == "double":
            self.letters.append(letter)
            return None
        del self.letters[at]
        if word == "come" and self.members[letter[2]].up:
            self.letters += self.members[letter[2]].hear(letter)
        return None

    def settle(self, hands):
        if type(hands) is not tuple:
            raise NoHand(hands)
        for at, name in enumerate(hands):
            self.must_be_hand(name)
            if name in hands[:at]:
                raise NoHand(name)
        for name in hands:
            if not self.members[name].up:
                raise Fallen(name)
        for name in hands:
            self.letters += self.members[name].again()
        many = 0
        while True:
            between = [at for at, letter in enumerate(self.letters) if letter[1] in hands and letter[2] in hands]
            if not between:
                return many
            self.do_on_road("come", between[0])
            many += 1

    def places(self):
        """A dict from each point to a list of its (place, (promised, taken), floor), one for each place where it is."""
        found = {}
        for hand in self.members:
            here = [((hand.name,), hand.points, len(hand.known()))]
            for to, number, holding, since, words in hand.outbox:
                if number >= self.members[to].taken[hand.name]:
                    here.append(((hand.name, to, number), points_of(holding), since + len(words)))
            for place, points, floor in here:
                for point, state in points.items():
                    found.setdefault(point, []).append((place, state, floor))
        return found

    def spots(self):
        runs = []
        for point, ((place, state, floor),) in sorted(self.places().items()):
            slip = holding_of({0: state})[0][2]
            if runs and runs[-1][1] == point - 1 and runs[-1][2:] == [place, slip, floor]:
                runs[-1][1] = point
            else:
                runs.append([point, point, place, slip, floor])
        return tuple(map(tuple, runs))

    def greatest(self):
        ballots = [NONE]
        for hand in self.members:
            ballots.append(hand.heard)
            if hand.number:
                ballots.append((hand.number, hand.name))
        for (_, (promised, _), _), in self.places().values():
            ballots.append(promised)
        for letter in self.letters:
            if letter[0] in ("ask", "told", "offer", "took", "late"):
                ballots.append(letter[3])
            if letter[0] == "late":
                ballots.append(letter[4])
        return max(ballots)

    def takers(self):
        """A dict from (row, ballot, word) to a list of the points that took it, for each hand."""
        found = {}
        for hand in self.members:
            for (row, ballot), (word, points) in hand.log.items():
                found.setdefault((row, ballot, word), [set() for _ in self.members])[hand.name] |= set(points)
        return found

    def took(self):
        return tuple(key + (lot_by_points(set().union(*by_hand)),) for key, by_hand in sorted(self.takers().items()))

    def chosen(self):
        return tuple(sorted({(row, word) for row, _, word, lot in self.took() if self.is_most(lot_points(lot))}))

    def is_most(self, points):
        return 2 * len(set(points)) > self.all

    def paper(self, row):
        for (place, ballot, word), by_hand in sorted(self.takers().items()):
            if place == row and self.is_most(set().union(*by_hand)):
                parts, ahead = [], set()
                for name, points in enumerate(by_hand):
                    if points - ahead:
                        parts.append((name, lot_by_points(points - ahead)))
                    ahead |= points
                return ("chosen", row, ballot, word, tuple(parts))
        return None

    def can_choose(self, hands):
        places = {point: here[0][0] for point, here in self.places().items()}
        return self.is_most([point for point, place in places.items() if set(place[:2]) <= set(hands)])
