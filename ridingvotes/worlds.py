"""Worlds: several hands, which have all points together, and the road with the letters between them."""

from ridingvotes.basics import is_from, knitted
from ridingvotes.counts import is_most
from ridingvotes.errors import BadWorld, NoDeed, NoHand, NoLetter, NoWord
from ridingvotes.hands import Hand
from ridingvotes.lots import joined
from ridingvotes.restoring import copy_of
from ridingvotes.slips import FRESH, NONE

MOST_HANDS = 8

# How many parts a deed of each word has, the word counted.
PARTS = {"ask": 3, "offer": 4, "give": 4, "again": 2, "fall": 2, "rise": 2, "come": 2, "lose": 2, "double": 2}
ROAD_DEEDS = ("come", "lose", "double")


def is_shares(thing):
    """Whether the thing, of whatever kind, is how many points each hand of a world begins with."""
    if not isinstance(thing, tuple) or not 1 <= len(thing) <= MOST_HANDS:
        return False
    return all([is_from(share, 0) for share in thing]) and sum(thing) >= 1


def first_hands(shares):
    """The hands that begin with so many points each, hand 0 with the first ones."""
    found = []
    begin = 0
    for share in shares:
        holding = ((begin, begin + share - 1, FRESH),) if share else ()
        found.append(Hand(len(found), len(shares), sum(shares), holding))
        begin += share
    return found


def is_deed(thing):
    """Whether the thing, of whatever kind, is a deed by its word and how many parts it has."""
    if not isinstance(thing, tuple) or thing == () or not isinstance(thing[0], str):
        return False
    return thing[0] in PARTS and len(thing) == PARTS[thing[0]]


def is_deed_of_hand(thing):
    """Whether the thing, of whatever kind, is a deed of a hand by its word and how many parts it has."""
    return is_deed(thing) and thing[0] not in ROAD_DEEDS


def deed_of(hand, deed):
    """The hand does the deed: told is (the word offered, or None, the letters that it sends)."""
    word = deed[0]
    if word == "offer":
        return offer_of(hand, deed)
    if word == "ask":
        return (None, hand.ask(deed[2]))
    if word == "give":
        return (None, hand.give(deed[2], deed[3]))
    if word == "again":
        return (None, hand.again())
    if word == "fall":
        return (None, hand.fall())
    return (None, hand.rise())


def offer_of(hand, deed):
    """The hand offers: told is (the word offered, the letters that it sends)."""
    _, _, row, word = deed
    hand.check_up()
    if not is_from(word, 0):
        raise NoWord(word)
    return hand.offer(row, word)


def ballots_of(letter):
    """The ballots that the letter bears as such, not those of points in it."""
    if letter[0] in ("known", "parcel", "receipt"):
        return []
    if letter[0] == "late":
        return [letter[3], letter[4]]
    return [letter[3]]


def took_by(hands):
    """The rising tuple of (row, ballot, word, lot): all points that have ever taken the word, by the hands' logs."""
    found = {}
    for hand in hands:
        for row, ballot, word, lot in hand.log:
            found[(row, ballot, word)] = joined(found.get((row, ballot, word), ()), lot)
    return tuple([key + (found[key],) for key in sorted(found)])


def chosen_of(took, points):
    """The rising tuple of (row, word): which word of a row more than half of so many points took by one ballot."""
    found = {row: word for row, _, word, lot in took if is_most(lot, points)}
    return tuple([(row, found[row]) for row in sorted(found)])


class World:
    """Hands with their points, and the letters under way between them.

    A hand is never changed but replaced by another one, so that the copies of a world may have the very same hands.
    """

    def __init__(self, shares):
        if not is_shares(shares):
            raise BadWorld(shares)
        self.all_points = sum(shares)
        self.members = first_hands(shares)
        self.letters = []

    def hands(self):
        """How many hands there are."""
        return len(self.members)

    def points(self):
        """How many points there are in all."""
        return self.all_points

    def hand(self, name):
        """A copy of the hand, which the world knows nothing of."""
        self.check_hand(name)
        return copy_of(self.members[name])

    def books_and_minds(self):
        """(book, mind) of each hand, without a copy of it."""
        return [(hand.book(), hand.mind()) for hand in self.members]

    def road(self):
        """The letters under way, in the order sent."""
        return tuple(self.letters)

    def copy(self):
        """A world alike, of its own."""
        return world_of(self.all_points, list(self.members), list(self.letters))

    def __eq__(self, other):
        return isinstance(other, World) and self.members == other.members and self.letters == other.letters

    def __len__(self):
        return len(self.letters)

    # What is done in it.

    def do(self, deed):
        """Does the deed, of whatever kind: told is the word offered by an offer, None by all others."""
        if not is_deed(deed):
            raise NoDeed(deed)
        if deed[0] in ROAD_DEEDS:
            self.do_on_road(deed[0], deed[1])
            return None
        name = deed[1]
        self.check_hand(name)
        hand = copy_of(self.members[name])
        told, letters = deed_of(hand, deed)
        self.members[name] = hand
        self.letters.extend(letters)
        return told

    def do_on_road(self, word, number):
        """The letter with this number comes, is lost or is doubled."""
        if not is_from(number, 0) or number >= len(self.letters):
            raise NoLetter(number)
        if word == "double":
            self.letters.append(self.letters[number])
            return
        letter = self.letters.pop(number)
        name = letter[2]
        if word == "come" and self.members[name].is_up:
            hand = copy_of(self.members[name])
            self.letters.extend(hand.answer(letter))
            self.members[name] = hand

    def settle(self, hands):
        """Each of the hands does again, then their letters to one another come: told is how many came."""
        self.check_hands(hands)
        for name in hands:
            self.members[name].check_up()
        for name in hands:
            self.letters.extend(self.members[name].again())
        many = 0
        at = 0
        # New letters stand behind the road, so that none ahead of this place comes to be between the hands.
        while at < len(self.letters):
            if self.letters[at][1] in hands and self.letters[at][2] in hands:
                self.do_on_road("come", at)
                many += 1
            else:
                at += 1
        return many

    # What it is refused for.

    def check_hand(self, thing):
        """Refused where the thing, of whatever kind, is no hand."""
        if not is_from(thing, 0) or thing >= len(self.members):
            raise NoHand(thing)

    def check_hands(self, thing):
        """Refused where the thing, of whatever kind, is no tuple of unlike hands."""
        if not isinstance(thing, tuple):
            raise NoHand(thing)
        ahead = []
        for name in thing:
            self.check_hand(name)
            if name in ahead:
                raise NoHand(name)
            ahead.append(name)

    # What it tells of its points and ballots.

    def spots(self):
        """The rising tuple of (first, last, place, slip, floor): where each point is."""
        rows = []
        for hand in self.members:
            rows.extend([(first, last, (hand.name,), slip, len(hand.known)) for first, last, slip in hand.holding])
            for to, number, holding, since, words in self.parcels_under_way(hand):
                place = (hand.name, to, number)
                rows.extend([(first, last, place, slip, since + len(words)) for first, last, slip in holding])
        return knitted(sorted(rows))

    def parcels_under_way(self, hand):
        """The parcels of its outbox that weren't taken yet, whether or not a receipt of them came."""
        return [parcel for parcel in hand.outbox if parcel[1] >= self.members[parcel[0]].taken[hand.name]]

    def greatest(self):
        """The greatest ballot that was heard, asked by, promised or is borne by a letter, NONE without one."""
        found = [NONE] + [hand.heard for hand in self.members]
        found.extend([hand.own_ballot() for hand in self.members if hand.number])
        found.extend([slip[0] for _, _, _, slip, _ in self.spots()])
        for letter in self.letters:
            found.extend(ballots_of(letter))
        return max(found)

    def took(self):
        """The rising tuple of (row, ballot, word, lot): all points that have ever taken the word."""
        return took_by(self.members)

    def chosen(self):
        """The rising tuple of (row, word): which word of a row more than half of all points took by one ballot."""
        return chosen_of(self.took(), self.all_points)

    def logged(self, name, row, ballot, word):
        """The lot of the points that took the word while they were with the hand, by its log."""
        for entry in self.members[name].log:
            if entry[:3] == (row, ballot, word):
                return entry[3]
        return ()


def world_of(points, hands, letters):
    """The world of these hands, a list, which have so many points in all, and of the letters, a list, on its road."""
    world = World((points,))
    world.members = hands
    world.letters = letters
    return world
