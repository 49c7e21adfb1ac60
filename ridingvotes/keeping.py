"""What a hand keeps: its points, what it heard and knows, and what its own ballot came to. It sends no letters."""

from ridingvotes.basics import is_from
from ridingvotes.counts import gathered, is_most
from ridingvotes.holdings import at_floor, put_in
from ridingvotes.lots import joined
from ridingvotes.pairs import pairs_from, put, replaced, worth, written
from ridingvotes.points import promising, taking
from ridingvotes.slips import NONE


class Keeper:
    """One of several hands, without its deeds and letters.

    All that it keeps are numbers, truths and tuples, so that a copy of it may have the very same ones.
    """

    def __init__(self, name, hands, points, holding):
        self.name = name
        self.many_hands = hands
        self.all_points = points
        self.holding = holding
        self.heard = NONE
        self.standing = ()
        self.number = 0
        self.offers = ()
        self.known = ()
        self.more = ()
        self.outbox = ()
        self.sent = (0,) * hands
        self.taken = self.sent
        self.log = ()
        self.is_up = True
        self.clear_mind()

    def clear_mind(self):
        """Its mind is as at first."""
        self.gathered = None
        self.counts = ()
        self.learns = replaced((0,) * self.many_hands, self.name, len(self.known))
        self.late = NONE

    def others(self):
        """The names of all other hands, rising."""
        return [to for to in range(self.many_hands) if to != self.name]

    def is_other(self, thing):
        """Whether the thing, of whatever kind, is the name of another hand."""
        return is_from(thing, 0) and thing < self.many_hands and thing != self.name

    def own_ballot(self):
        """The ballot of its last asking."""
        return (self.number, self.name)

    # What it knows.

    def is_known(self, row):
        """Whether it knows the word of the row, a whole number."""
        return 0 <= row < len(self.known) or worth(self.more, row) is not None

    def news_from(self, knows):
        """(since, words) for a hand that knows so many rows."""
        since = min(knows, len(self.known))
        return (since, self.known[since:])

    def learn(self, since, words):
        """It is told the words of the rows from since on."""
        if since <= len(self.known):
            self.know(words[len(self.known) - since:])

    def know(self, words):
        """It knows the words of its next rows, and what it knows beyond them without a gap."""
        self.known = self.known + words
        for row, word in self.more:
            if row == len(self.known):
                self.known = self.known + (word,)
        floor = len(self.known)
        self.learns = replaced(self.learns, self.name, floor)
        self.more = pairs_from(self.more, floor)
        self.standing = pairs_from(self.standing, floor)
        self.offers = pairs_from(self.offers, floor)
        self.counts = pairs_from(self.counts, floor)
        self.holding = at_floor(self.holding, floor)
        if self.gathered is not None:
            self.gathered = at_floor(self.gathered, floor)

    # What it hears, and what its points do then.

    def face(self, ballot):
        """It hears an asking or an offer by the ballot, which is no lesser one than heard."""
        if ballot > self.heard:
            self.heard = ballot
            self.standing = ()

    def promise(self, ballot):
        """It hears an asking by the ballot, its points promise: the holding of those that promised just that."""
        self.face(ballot)
        self.holding, told = promising(self.holding, ballot)
        return told

    def take(self, ballot, row, word):
        """It hears an offer by the ballot, its points take the word: the lot of those that took just this."""
        self.face(ballot)
        self.standing = put(self.standing, row, word)
        self.holding, lot = taking(self.holding, ballot, row, word)
        self.log = written(self.log, row, ballot, word, lot)
        return lot

    def take_in(self, part):
        """The points come to it and catch up with what its points heard.

        Told is (told, lots): the holding of those that promised just heard ahead of what is standing, and for each
        row that is standing (row, lot), those that took it.
        """
        if self.heard == NONE:
            self.holding = put_in(self.holding, part)
            return ((), ())
        part, told = promising(part, self.heard)
        lots = []
        for row, word in self.standing:
            part, lot = taking(part, self.heard, row, word)
            self.log = written(self.log, row, self.heard, word, lot)
            lots.append((row, lot))
        self.holding = put_in(self.holding, part)
        return (told, tuple(lots))

    # What its own ballot came to.

    def has_most(self, lot):
        """Whether the lot has more than half of all points."""
        return is_most(lot, self.all_points)

    def gather(self, told):
        """The holding was told for its own asking."""
        floor = len(self.known)
        self.gathered = gathered(at_floor(self.gathered, floor), at_floor(told, floor))

    def note_taken(self, row, lot):
        """The points of the lot took what it offers of the row, which is chosen so, perhaps."""
        word = worth(self.offers, row)
        if word is None or worth(self.more, row) is not None:
            return
        took = joined(worth(self.counts, row) or (), lot)
        self.counts = put(self.counts, row, took)
        if not self.has_most(took):
            return
        if row == len(self.known):
            self.know((word,))
        else:
            self.more = put(self.more, row, word)
