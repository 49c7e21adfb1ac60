"""A hand told point by point, as plainly as the document tells it: what the package's hands are held against.

Its points are a dict from points to (promised, taken), taken a dict from rows to (ballot, word).
"""

from ridingvotes.errors import Fallen, FarRow, Known, NoHand, NoLot, NotHeld, NotMost, OldBallot, Standing
from tests.things import holding_by_points, lot_by_points

NONE = (0, 0)


def whole(thing):
    return type(thing) is int and thing >= 0


def points_of(holding):
    """The dict from points to (promised, taken) of a holding."""
    return {point: (promised, {row: (ballot, word) for row, ballot, word in taken})
            for first, last, (promised, taken) in holding for point in range(first, last + 1)}


def holding_of(points):
    return holding_by_points({
        point: (promised, tuple((row,) + taken[row] for row in sorted(taken)))
        for point, (promised, taken) in points.items()})


def lot_points(lot):
    return [point for first, last in lot for point in range(first, last + 1)]


def floored(points, floor):
    return {point: (promised, {row: taken[row] for row in taken if row >= floor})
            for point, (promised, taken) in points.items()}


def is_no_earlier(ahead, behind):
    """Whether the (promised, taken) behind is no earlier than the one ahead."""
    if behind[0] < ahead[0]:
        return False
    for row, (ballot, word) in ahead[1].items():
        if row not in behind[1]:
            return False
        other_ballot, other_word = behind[1][row]
        if other_ballot < ballot or (other_ballot == ballot and other_word != word):
            return False
    return True


class PlainHand:
    def __init__(self, name, hands, points, holding):
        self.name, self.hands, self.all = name, hands, points
        self.points = points_of(holding)
        self.heard, self.standing = NONE, {}
        self.number, self.offers = 0, {}
        self.words = {}
        self.outbox, self.sent, self.taken = [], [0] * hands, [0] * hands
        self.log = {}
        self.up = True
        self.forget()

    def forget(self):
        self.gathered, self.counts, self.late = None, {}, NONE
        self.learns = {hand: 0 for hand in range(self.hands)}

    def known(self):
        """The words of rows 0, 1, .. without a gap; words has these and those beyond."""
        row = 0
        while row in self.words:
            row += 1
        return tuple(self.words[at] for at in range(row))

    def book(self):
        known = self.known()
        return (self.name, holding_of(self.points), self.heard, tuple(sorted(self.standing.items())), self.number,
                tuple(sorted(self.offers.items())), known,
                tuple(sorted((row, word) for row, word in self.words.items() if row >= len(known))),
                tuple(self.outbox), tuple(self.sent), tuple(self.taken),
                tuple(sorted((row, ballot, word, lot_by_points(lot))
                             for (row, ballot), (word, lot) in self.log.items())))

    def mind(self):
        if not self.up:
            return None
        learns = dict(self.learns)
        learns[self.name] = len(self.known())
        return (None if self.gathered is None else holding_of(self.gathered),
                tuple(sorted((row, lot_by_points(lot)) for row, lot in self.counts.items())),
                tuple(learns[hand] for hand in range(self.hands)), self.late)

    def others(self):
        return [hand for hand in range(self.hands) if hand != self.name]

    def since_and_words(self, to):
        since = min(self.learns[to], len(self.known()))
        return (since, self.known()[since:])

    def must_be_up(self):
        if not self.up:
            raise Fallen(self.name)

    def ask(self, number):
        self.must_be_up()
        if not whole(number) or number <= self.number:
            raise OldBallot(number)
        self.number, self.offers, self.counts, self.gathered = number, {}, {}, {}
        ballot = (number, self.name)
        if ballot < self.heard:
            self.late = max(self.late, self.heard)
        else:
            self.hear_ballot(ballot)
            self.gather(self.promise(self.points, ballot))
        return tuple(("ask", self.name, to, ballot, len(self.known())) for to in self.others())

    def offer(self, row, word):
        self.must_be_up()
        if self.gathered is None or len(self.gathered) * 2 <= self.all:
            raise NotMost(self.name)
        if whole(row) and row in self.words:
            raise Known(row)
        if not whole(row) or not len(self.known()) <= row <= len(self.known()) + 19:
            raise FarRow(row)
        ballot = (self.number, self.name)
        took = [state[1][row] for state in self.gathered.values() if row in state[1]]
        if row in self.offers:
            word = self.offers[row]
        elif took:
            greatest = max(part[0] for part in took)
            word = min(part[1] for part in took if part[0] == greatest)
        self.offers[row] = word
        letters = [("offer", self.name, to, ballot, row, word) for to in self.others()]
        if ballot < self.heard:
            self.late = max(self.late, self.heard)
        else:
            self.hear_ballot(ballot)
            self.standing[row] = word
            letters += self.count(row, self.take(self.points, row, word))
        return (word, tuple(letters))

    def give(self, to, lot):
        self.must_be_up()
        if not whole(to) or to >= self.hands or to == self.name:
            raise NoHand(to)
        if lot == () or not is_plain_lot(lot):
            raise NoLot(lot)
        for point in lot_points(lot):
            if point not in self.points:
                raise NotHeld(point)
        part = holding_of({point: self.points.pop(point) for point in lot_points(lot)})
        parcel = (to, self.sent[to], part) + self.since_and_words(to)
        self.sent[to] += 1
        self.outbox.append(parcel)
        return (("parcel", self.name) + parcel,)

    def again(self):
        self.must_be_up()
        letters = [("parcel", self.name) + parcel for parcel in self.outbox]
        if self.gathered is not None:
            ballot = (self.number, self.name)
            letters += [("ask", self.name, to, ballot, len(self.known())) for to in self.others()]
            for row in sorted(self.offers):
                letters += [("offer", self.name, to, ballot, row, self.offers[row]) for to in self.others()]
        return tuple(letters)

    def fall(self):
        self.must_be_up()
        self.up = False
        return ()

    def rise(self):
        if self.up:
            raise Standing(self.name)
        self.up = True
        self.forget()
        return ()

    def hear(self, letter):
        self.must_be_up()
        word, sender, _, *parts = letter
        knows = {"ask": lambda: parts[1], "receipt": lambda: parts[1], "told": lambda: parts[2] + len(parts[3]),
                 "known": lambda: parts[0] + len(parts[1]), "parcel": lambda: parts[2] + len(parts[3])}
        if word in knows:
            self.learns[sender] = max(self.learns[sender], knows[word]())
        return tuple(getattr(self, "hear_" + word)(sender, *parts))

    def hear_ask(self, sender, ballot, knows):
        if ballot < self.heard:
            return [("late", self.name, sender, ballot, self.heard)]
        self.hear_ballot(ballot)
        told = holding_of(self.promise(self.points, ballot))
        since = min(knows, len(self.known()))
        return [("told", self.name, sender, ballot, told, since, self.known()[since:])]

    def hear_told(self, sender, ballot, holding, since, words):
        self.learn(since, words)
        if self.gathered is not None and ballot == (self.number, self.name):
            self.gather(points_of(holding))
        return []

    def hear_offer(self, sender, ballot, row, word):
        if ballot < self.heard:
            return [("late", self.name, sender, ballot, self.heard)]
        self.hear_ballot(ballot)
        if row < len(self.known()):
            return [("known", self.name, sender) + self.since_and_words(sender)]
        self.standing[row] = word
        return [("took", self.name, sender, ballot, row, lot_by_points(self.take(self.points, row, word)))]

    def hear_took(self, sender, ballot, row, lot):
        if self.gathered is None or ballot != (self.number, self.name):
            return []
        return self.count(row, lot_points(lot))

    def hear_late(self, sender, ballot, greater):
        self.late = max(self.late, greater)
        return []

    def hear_known(self, sender, since, words):
        self.learn(since, words)
        return []

    def hear_receipt(self, sender, number, knows):
        self.outbox = [parcel for parcel in self.outbox if parcel[0] != sender or parcel[1] >= number]
        return []

    def hear_parcel(self, sender, number, holding, since, words):
        if number != self.taken[sender]:
            receipt = ("receipt", self.name, sender, self.taken[sender], len(self.known()))
            return [receipt] if number < self.taken[sender] else []
        self.learn(since, words)
        self.taken[sender] += 1
        letters = [("receipt", self.name, sender, self.taken[sender], len(self.known()))]
        came = floored(points_of(holding), len(self.known()))
        own, to = self.heard[1] == self.name, self.heard[1]
        told, lots = {}, []
        if self.heard != NONE:
            told = self.promise(came, self.heard)
            for row in sorted(self.standing):
                lots.append((row, self.take(came, row, self.standing[row])))
        self.points.update(came)
        if self.heard != NONE and not own:
            if told:
                letters.append(("told", self.name, to, self.heard, holding_of(told)) + self.since_and_words(to))
            letters += [("took", self.name, to, self.heard, row, lot_by_points(lot)) for row, lot in lots if lot]
        if self.heard != NONE and own and self.gathered is not None:
            self.gather(told)
            for row, lot in lots:
                letters += self.count(row, lot)
        return letters

    def hear_ballot(self, ballot):
        if ballot > self.heard:
            self.heard, self.standing = ballot, {}

    def promise(self, points, ballot):
        """Points, a dict, are changed; those that have promised just the ballot then."""
        for point, (promised, taken) in points.items():
            if promised < ballot:
                points[point] = (ballot, taken)
        return {point: state for point, state in points.items() if state[0] == ballot}

    def take(self, points, row, word):
        """Points, a dict, are changed; a list of those that have taken just this then."""
        for point, (promised, taken) in points.items():
            if promised <= self.heard:
                points[point] = (self.heard, {**taken, row: (self.heard, word)})
        lot = [point for point in points if points[point][1].get(row) == (self.heard, word)]
        if lot:
            had = self.log.get((row, self.heard), (word, []))[1]
            self.log[row, self.heard] = (word, had + lot)
        return lot

    def gather(self, told):
        for point, state in floored(told, len(self.known())).items():
            if point not in self.gathered or is_no_earlier(self.gathered[point], state):
                self.gathered[point] = state
        self.gathered = floored(self.gathered, len(self.known()))

    def learn(self, since, words):
        """Words that are known stay as they are; those beyond a gap aren't learnt."""
        if since <= len(self.known()):
            for row, word in enumerate(words, since):
                if row >= len(self.known()):
                    self.words[row] = word
        self.drop()

    def drop(self):
        floor = len(self.known())
        for rows in (self.standing, self.offers, self.counts):
            for row in [row for row in rows if row < floor]:
                del rows[row]
        self.points = floored(self.points, floor)
        if self.gathered is not None:
            self.gathered = floored(self.gathered, floor)

    def count(self, row, lot):
        if row not in self.offers or row in self.words:
            return []
        ahead = len(self.known())
        self.counts[row] = sorted(set(self.counts.get(row, [])) | set(lot))
        if len(self.counts[row]) * 2 > self.all:
            self.words[row] = self.offers[row]
        self.drop()
        if len(self.known()) == ahead:
            return []
        return [("known", self.name, to) + self.since_and_words(to) for to in self.others()
                if self.learns[to] < len(self.known())]


def is_plain_lot(thing):
    """Whether the thing is a lot: just the one that its points give."""
    if not isinstance(thing, tuple):
        return False
    for run in thing:
        if not isinstance(run, tuple) or len(run) != 2 or not whole(run[0]) or not whole(run[1]) or run[0] > run[1]:
            return False
    return lot_by_points(lot_points(thing)) == thing
