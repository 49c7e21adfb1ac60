"""Hands: what each does, how it answers letters, and the letters that it sends."""

from ridingvotes.basics import is_from
from ridingvotes.counts import must
from ridingvotes.errors import Fallen, FarRow, Known, NoHand, NoLot, NotHeld, NotMine, NotMost, OldBallot, Standing
from ridingvotes.holdings import at_floor, cut, lot_held
from ridingvotes.keeping import Keeper
from ridingvotes.letters import is_letter, rows_told
from ridingvotes.lots import is_lot, size, without
from ridingvotes.pairs import put, replaced, worth

# How far beyond the first row that it doesn't know a hand may offer.
BEYOND = 19


def is_received(parcel, receipt):
    """Whether the receipt tells that the parcel, of an outbox, was taken."""
    return parcel[0] == receipt[1] and parcel[1] < receipt[3]


class Hand(Keeper):
    """One of several hands, which have all points together."""

    def __init__(self, name, hands, points, holding):
        Keeper.__init__(self, name, hands, points, holding)

    def book(self):
        """What it has written down, which no fall takes."""
        return (self.name, self.holding, self.heard, self.standing, self.number, self.offers, self.known, self.more,
                self.outbox, self.sent, self.taken, self.log)

    def mind(self):
        """What a fall takes, None while it is down."""
        if not self.is_up:
            return None
        return (self.gathered, self.counts, self.learns, self.late)

    def held(self):
        """How many points it has."""
        return size(lot_held(self.holding))

    def __eq__(self, other):
        return isinstance(other, Hand) and self.book() == other.book() and self.mind() == other.mind()

    # Deeds: each tells the letters that it sends.

    def ask(self, number):
        """It asks by a new ballot."""
        self.check_up()
        if not is_from(number, self.number + 1):
            raise OldBallot(number)
        self.number = number
        self.offers = ()
        self.counts = ()
        self.gathered = ()
        if self.own_ballot() < self.heard:
            self.late = max(self.late, self.heard)
        else:
            self.gather(self.promise(self.own_ballot()))
        return self.asking_letters()

    def offer(self, row, word):
        """It offers a word, perhaps another than this one: told is (the word offered, the letters)."""
        self.check_up()
        self.check_row(row)
        word = self.word_to_offer(row, word)
        self.offers = put(self.offers, row, word)
        letters = self.offering_letters(row, word)
        if self.own_ballot() < self.heard:
            self.late = max(self.late, self.heard)
            return (word, letters)
        return (word, letters + self.count_taken(row, self.take(self.own_ballot(), row, word)))

    def give(self, to, lot):
        """The points of the lot leave it in a parcel."""
        self.check_up()
        if not self.is_other(to):
            raise NoHand(to)
        if not is_lot(lot) or lot == ():
            raise NoLot(lot)
        lacking = without(lot, lot_held(self.holding))
        if lacking != ():
            raise NotHeld(lacking[0][0])
        part, self.holding = cut(self.holding, lot)
        parcel = (to, self.sent[to], part) + self.news_for(to)
        self.sent = replaced(self.sent, to, self.sent[to] + 1)
        self.outbox = self.outbox + (parcel,)
        return (self.parcel_letter(parcel),)

    def again(self):
        """It sends once more what may be lost: its parcels, its asking, its offers."""
        self.check_up()
        letters = tuple([self.parcel_letter(parcel) for parcel in self.outbox])
        if self.gathered is None:
            return letters
        letters = letters + self.asking_letters()
        for row, word in self.offers:
            letters = letters + self.offering_letters(row, word)
        return letters

    def fall(self):
        """It is down, and its mind is gone."""
        self.check_up()
        self.is_up = False
        self.clear_mind()
        return ()

    def rise(self):
        """It is up again."""
        if self.is_up:
            raise Standing(self.name)
        self.is_up = True
        return ()

    def hear(self, letter):
        """It hears the letter: told are the letters that it sends for it."""
        self.check_up()
        if not self.is_mine(letter):
            raise NotMine(letter)
        return self.answer(letter)

    def answer(self, letter):
        """It hears the letter, which is surely one to it, and it is up: told are the letters that it sends for it."""
        sender, rows = letter[1], rows_told(letter)
        if rows > self.learns[sender]:
            self.learns = replaced(self.learns, sender, rows)
        kind = letter[0]
        if kind == "ask":
            return self.hear_ask(letter)
        if kind == "told":
            return self.hear_told(letter)
        if kind == "offer":
            return self.hear_offer(letter)
        if kind == "took":
            return self.hear_took(letter)
        if kind == "parcel":
            return self.hear_parcel(letter)
        return self.hear_news(letter)

    # What a deed is refused for.

    def check_up(self):
        """Refused where it is down."""
        if not self.is_up:
            raise Fallen(self.name)

    def check_row(self, row):
        """Refused where it may not offer a word of the row, which is of whatever kind."""
        if self.gathered is None or not self.has_most(lot_held(self.gathered)):
            raise NotMost(self.name)
        if is_from(row, 0) and self.is_known(row):
            raise Known(row)
        if not is_from(row, len(self.known)) or row > len(self.known) + BEYOND:
            raise FarRow(row)

    def is_mine(self, thing):
        """Whether the thing, of whatever kind, is a letter to it from one of the hands."""
        return is_letter(thing) and thing[2] == self.name and self.is_other(thing[1])

    # What its deeds and its hearing need.

    def word_to_offer(self, row, word):
        """The word that it must offer of the row, else the one handed in."""
        offered = worth(self.offers, row)
        if offered is None:
            offered = worth(must(self.gathered), row)
        return word if offered is None else offered

    def count_taken(self, row, lot):
        """The points of the lot took what it offers: told are the letters to those who know fewer rows then."""
        ahead = len(self.known)
        self.note_taken(row, lot)
        if len(self.known) == ahead:
            return ()
        unaware = [to for to in self.others() if self.learns[to] < len(self.known)]
        return tuple([self.known_letter(to) for to in unaware])

    def count_own(self, told, lots):
        """Points that came promised and took by its own ballot: told are the letters that come of counting them."""
        letters = ()
        if self.gathered is not None:
            self.gather(told)
            for row, lot in lots:
                letters = letters + self.count_taken(row, lot)
        return letters

    # What it hears: each tells the letters that it sends for it.

    def hear_ask(self, letter):
        """An asking of another hand."""
        _, asker, _, ballot, knows = letter
        if ballot < self.heard:
            return (self.late_letter(asker, ballot),)
        told = self.promise(ballot)
        # By what the letter itself tells: its asker may be known to know more by now.
        return (("told", self.name, asker, ballot, told) + self.news_from(knows),)

    def hear_told(self, letter):
        """What points of another hand have promised."""
        _, _, _, ballot, holding, since, words = letter
        self.learn(since, words)
        if self.gathered is not None and ballot == self.own_ballot():
            self.gather(holding)
        return ()

    def hear_offer(self, letter):
        """An offer of another hand."""
        _, offerer, _, ballot, row, word = letter
        if ballot < self.heard:
            return (self.late_letter(offerer, ballot),)
        if row < len(self.known):
            self.face(ballot)
            return (self.known_letter(offerer),)
        return (self.took_letter(offerer, ballot, row, self.take(ballot, row, word)),)

    def hear_took(self, letter):
        """Which points of another hand took its offer."""
        _, _, _, ballot, row, lot = letter
        if self.gathered is None or ballot != self.own_ballot():
            return ()
        return self.count_taken(row, lot)

    def hear_parcel(self, letter):
        """Points that another hand gave to it."""
        _, giver, _, number, holding, since, words = letter
        if number > self.taken[giver]:
            return ()
        if number < self.taken[giver]:
            return (self.receipt_letter(giver),)
        self.learn(since, words)
        self.taken = replaced(self.taken, giver, self.taken[giver] + 1)
        # Counting may make more rows known; the receipt tells how many it knew ahead of that.
        receipt = self.receipt_letter(giver)
        told, lots = self.take_in(at_floor(holding, len(self.known)))
        if self.heard[1] == self.name:
            return (receipt,) + self.count_own(told, lots)
        return (receipt,) + self.letters_of_points(told, lots)

    def letters_of_points(self, told, lots):
        """The letters to the hand of heard, of points that came: what they have promised and what they took."""
        letters = []
        to = self.heard[1]
        if told != ():
            letters.append(("told", self.name, to, self.heard, told) + self.news_for(to))
        for row, lot in lots:
            if lot != ():
                letters.append(self.took_letter(to, self.heard, row, lot))
        return tuple(letters)

    def hear_news(self, letter):
        """A late, a known or a receipt, which it doesn't answer."""
        if letter[0] == "late":
            self.late = max(self.late, letter[4])
        elif letter[0] == "known":
            self.learn(letter[3], letter[4])
        else:
            self.outbox = tuple([parcel for parcel in self.outbox if not is_received(parcel, letter)])
        return ()

    # Its letters.

    def asking_letters(self):
        """Its asking, to all others."""
        return tuple([("ask", self.name, to, self.own_ballot(), len(self.known)) for to in self.others()])

    def offering_letters(self, row, word):
        """Its offer of the row, to all others."""
        return tuple([("offer", self.name, to, self.own_ballot(), row, word) for to in self.others()])

    def took_letter(self, to, ballot, row, lot):
        """Which of its points took an offer of the other hand."""
        return ("took", self.name, to, ballot, row, lot)

    def parcel_letter(self, parcel):
        """The letter with a parcel of its outbox."""
        return ("parcel", self.name) + parcel

    def receipt_letter(self, giver):
        """How many parcels of the giver were taken."""
        return ("receipt", self.name, giver, self.taken[giver], len(self.known))

    def late_letter(self, to, ballot):
        """A greater ballot than this one was heard."""
        return ("late", self.name, to, ballot, self.heard)

    def known_letter(self, to):
        """The words that the other hand isn't known to know."""
        return ("known", self.name, to) + self.news_for(to)

    def news_for(self, to):
        """(since, words) for the other hand, by how many rows it is known to know."""
        return self.news_from(self.learns[to])
