"""How texts are written, told by patterns: what the package's readers are held against."""

import re

NUMBER = "(?:0|[1-9][0-9]{0,11})"
BALLOT = r"(?:[1-9][0-9]{0,11}\." + NUMBER + ")"
HEARD = f"(?:-|{BALLOT})"
SLIP = f"(?:-|{BALLOT}(?:/{NUMBER}={BALLOT}={NUMBER})*)"
HOLDING = f"(?:-|{NUMBER}-{NUMBER}:{SLIP}(?:;{NUMBER}-{NUMBER}:{SLIP})*)"
LOT = f"(?:-|{NUMBER}(?:-{NUMBER})?(?:,{NUMBER}(?:-{NUMBER})?)*)"
WORDS = f"(?:-|{NUMBER}(?:,{NUMBER})*)"
PAIRS = f"(?:-|{NUMBER}={NUMBER}(?:,{NUMBER}={NUMBER})*)"
LETTERS = {
    "ask": (BALLOT, NUMBER), "told": (BALLOT, HOLDING, NUMBER, WORDS), "offer": (BALLOT, NUMBER, NUMBER),
    "took": (BALLOT, NUMBER, LOT), "late": (BALLOT, BALLOT), "known": (NUMBER, WORDS),
    "parcel": (NUMBER, HOLDING, NUMBER, WORDS), "receipt": (NUMBER, NUMBER),
}


def matches(text, *patterns):
    """Whether the text is of these patterns, one blank between."""
    return re.fullmatch(" ".join(patterns), text) is not None


def rising(things):
    return all(one < other for one, other in zip(things, things[1:]))


def ballot(text):
    return (0, 0) if text == "-" else tuple(int(part) for part in text.split("."))


def is_slip(text):
    if not matches(text, SLIP):
        return False
    parts = text.split("/")
    taken = [part.split("=") for part in parts[1:]]
    return rising([int(row) for row, _, _ in taken]) and all(ballot(one) <= ballot(parts[0]) for _, one, _ in taken)


def runs_of(text):
    """(first, last, slip) of each run of a holding of this form."""
    runs = [] if text == "-" else [re.fullmatch("(.*?)-(.*?):(.*)", run).groups() for run in text.split(";")]
    return [(int(first), int(last), slip) for first, last, slip in runs]


def is_holding(text):
    if not matches(text, HOLDING):
        return False
    runs = runs_of(text)
    if not all(first <= last and is_slip(slip) for first, last, slip in runs):
        return False
    return all(one[1] < other[0] and (one[1] + 1 < other[0] or one[2] != other[2])
               for one, other in zip(runs, runs[1:]))


def is_lot(text):
    if not matches(text, LOT):
        return False
    runs = [] if text == "-" else [[int(point) for point in run.split("-")] for run in text.split(",")]
    if not all(len(run) == 1 or run[0] < run[1] for run in runs):
        return False
    return all(one[-1] + 1 < other[0] for one, other in zip(runs, runs[1:]))


def is_pairs(text):
    return matches(text, PAIRS) and (
        text == "-" or rising([int(pair.split("=")[0]) for pair in text.split(",")]))


def is_letter(text):
    kind = text.split(" ")[0]
    if kind not in LETTERS or not matches(text, kind, NUMBER, NUMBER, *LETTERS[kind]):
        return False
    word, sender, to, *parts = text.split(" ")
    if sender == to:
        return False
    for pattern, part in zip(LETTERS[word], parts):
        if (pattern == HOLDING and not is_holding(part)) or (pattern == LOT and not is_lot(part)):
            return False
    return True


class Reader:
    """Goes through the rows of a world's text; at is the first one that can't stand there."""

    def __init__(self, text):
        self.rows = text.split("\n")
        self.at = 0
        # Runs of (first, last), and parcels as (giver, to, number, runs).
        self.held, self.parcels, self.taken = [], [], []

    def wrong(self):
        """None of a text of a world, else the row that it is refused with."""
        if not self.is_world():
            return self.at
        runs = list(self.held)
        for giver, to, number, parcel in self.parcels:
            if number >= self.taken[to][giver]:
                runs += parcel
        begin = 0
        for first, last in sorted(runs):
            if first != begin:
                return len(self.rows)
            begin = last + 1
        return None if begin == self.points else len(self.rows)

    def next(self, *patterns):
        """The words behind the first one of this row, which has these patterns; None where it hasn't."""
        if self.at == len(self.rows) or not matches(self.rows[self.at], *patterns):
            return None
        return self.rows[self.at].split(" ")[1:]

    def step(self, is_so):
        """Whether it is so, and then a row further."""
        self.at += bool(is_so)
        return is_so

    def begins(self, word):
        return self.at < len(self.rows) and self.rows[self.at].split(" ")[0] == word

    def is_world(self):
        sizes = self.next("world", NUMBER, NUMBER)
        if not self.step(sizes and int(sizes[0]) >= 1 and 1 <= int(sizes[1]) <= 8):
            return False
        self.points, self.hands = int(sizes[0]), int(sizes[1])
        if not all(self.is_hand(name) for name in range(self.hands)):
            return False
        while self.at < len(self.rows):
            row = self.rows[self.at]
            names = row.split(" ")[2:4]
            if not self.step(row.startswith("letter ") and is_letter(row[7:]) and max(map(int, names)) < self.hands):
                return False
        return True

    def is_hand(self, name):
        is_up = self.next("hand", str(name), "up")
        if not self.step(is_up or self.next("hand", str(name), "down")):
            return False
        held = self.next("holds", HOLDING)
        if not self.step(held and is_holding(held[0])):
            return False
        self.held += [run[:2] for run in runs_of(held[0])]
        heard = self.next("heard", HEARD, PAIRS)
        if not self.step(heard and is_pairs(heard[1]) and (heard[0] != "-" or heard[1] == "-")):
            return False
        asks = self.next("asks", NUMBER, PAIRS)
        if not self.step(asks and is_pairs(asks[1])) or not self.step(self.next("knows", WORDS)):
            return False
        more = self.next("more", PAIRS)
        if not self.step(more and is_pairs(more[0])) or not self.is_outbox(name) or not self.is_numbers("sent"):
            return False
        if not self.is_numbers("taken"):
            return False
        self.taken.append([int(number) for number in self.rows[self.at - 1].split(" ")[1:]])
        return self.is_log() and (not is_up or self.is_mind())

    def is_numbers(self, word):
        return self.step(self.next(word, *(NUMBER,) * self.hands))

    def is_outbox(self, name):
        last = {}
        while self.begins("out"):
            parts = self.next("out", NUMBER, NUMBER, HOLDING, NUMBER, WORDS)
            if not parts or not is_holding(parts[2]):
                return False
            to, number = int(parts[0]), int(parts[1])
            if not self.step(to < self.hands and to != name and last.get(to, number - 1) == number - 1):
                return False
            last[to] = number
            self.parcels.append((name, to, number, [run[:2] for run in runs_of(parts[2])]))
        return True

    def is_log(self):
        keys = []
        while self.begins("log"):
            parts = self.next("log", NUMBER, BALLOT, NUMBER, LOT)
            if not parts or not is_lot(parts[3]):
                return False
            keys.append((int(parts[0]), ballot(parts[1])))
            if not self.step(rising(keys)):
                return False
        return True

    def is_mind(self):
        gathered = self.next("gathered", "none") or self.next("gathered", HOLDING)
        if not self.step(gathered and (gathered[0] == "none" or is_holding(gathered[0]))):
            return False
        rows = []
        while self.begins("counts"):
            parts = self.next("counts", NUMBER, LOT)
            if not parts or not is_lot(parts[1]):
                return False
            rows.append(int(parts[0]))
            if not self.step(rising(rows)):
                return False
        return self.is_numbers("learns") and self.step(self.next("late", HEARD))
