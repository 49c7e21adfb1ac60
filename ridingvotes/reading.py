"""Lots, holdings, letters and worlds, of their texts."""

from ridingvotes.errors import NoText
from ridingvotes.letters import PARTS, is_letter
from ridingvotes.parsing import ballot_of, checked, holding_of, lot_written, number_of, pairs_of, part_of
from ridingvotes.parsing import promise_of, words_of
from ridingvotes.restoring import restored
from ridingvotes.rows import Rows
from ridingvotes.slips import NONE
from ridingvotes.worlds import MOST_HANDS, world_of


def read_lot(text):
    """The lot whose text it is."""
    return lot_written(checked(isinstance(text, str), text))


def read_holding(text):
    """The holding whose text it is."""
    return holding_of(checked(isinstance(text, str), text))


def read_letter(text):
    """The letter whose text it is."""
    word, *texts = checked(isinstance(text, str), text).split(" ")
    return letter_of(word, texts)


def read_world(text):
    """The world whose text it is."""
    rows = Rows(checked(isinstance(text, str), text))
    try:
        return world_in(rows)
    except NoText:
        raise NoText(rows.at) from None


def letter_of(word, texts):
    """The letter of this word, the texts being those of its two hands and of its parts."""
    checked(word in PARTS, word)
    kinds = ("number", "number") + PARTS[word]
    checked(len(texts) == len(kinds), texts)
    letter = (word,) + tuple([part_of(kind, text) for kind, text in zip(kinds, texts)])
    return checked(is_letter(letter), letter)


def world_in(rows):
    """The world that the rows write."""
    points, many = [number_of(text) for text in rows.take("world", 2)]
    checked(points >= 1 and 1 <= many <= MOST_HANDS, many)
    hands = []
    while len(hands) < many:
        hands.append(hand_in(rows, len(hands), many, points))
    letters = []
    while not rows.is_end():
        letters.append(letter_in(rows, many))
    rows.finish()
    world = world_of(points, hands, letters)
    return checked(is_each_once(world), world)


def is_each_once(world):
    """Whether each point of the world is just once with a hand or in a parcel."""
    begin = 0
    for first, last, _, _, _ in world.spots():
        if first != begin:
            return False
        begin = last + 1
    return begin == world.points()


def letter_in(rows, many):
    """The letter of the next row."""
    word, *texts = rows.take_any("letter") or [""]
    letter = letter_of(word, texts)
    return checked(letter[1] < many and letter[2] < many, letter)


def hand_in(rows, name, many, points):
    """The hand of the next rows."""
    told, state = rows.take("hand", 2)
    checked(told == str(name) and state in ("up", "down"), told)
    book = book_in(rows, name, many)
    mind = mind_in(rows, many) if state == "up" else None
    return restored(book, mind, points)


def book_in(rows, name, many):
    """The book of the next rows."""
    holding = holding_of(rows.take_one("holds"))
    heard, standing = heard_in(rows)
    number, offers = rows.take("asks", 2)
    number, offers = number_of(number), pairs_of(offers)
    known = words_of(rows.take_one("knows"))
    more = pairs_of(rows.take_one("more"))
    outbox = outbox_in(rows, name, many)
    sent = numbers_in(rows, "sent", many)
    taken = numbers_in(rows, "taken", many)
    log = log_in(rows)
    return (name, holding, heard, standing, number, offers, known, more, outbox, sent, taken, log)


def heard_in(rows):
    """(heard, standing) of the next row."""
    heard, standing = rows.take("heard", 2)
    heard, standing = promise_of(heard), pairs_of(standing)
    return checked(heard != NONE or standing == (), (heard, standing))


def outbox_in(rows, name, many):
    """The outbox of the next rows."""
    outbox = []
    # For each hand the number that its next parcel must have.
    numbers = {}
    while rows.is_next("out"):
        to, number, holding, since, words = rows.take("out", 5)
        to, number = number_of(to), number_of(number)
        checked(to < many and to != name and numbers.get(to, number) == number, number)
        numbers[to] = number + 1
        outbox.append((to, number, holding_of(holding), number_of(since), words_of(words)))
    return tuple(outbox)


def numbers_in(rows, word, many):
    """The numbers of the next row, so many."""
    return tuple([number_of(text) for text in rows.take(word, many)])


def log_in(rows):
    """The log of the next rows."""
    log = []
    while rows.is_next("log"):
        row, ballot, word, lot = rows.take("log", 4)
        row, ballot = number_of(row), ballot_of(ballot)
        checked(log == [] or log[-1][:2] < (row, ballot), row)
        log.append((row, ballot, number_of(word), lot_written(lot)))
    return tuple(log)


def mind_in(rows, many):
    """The mind of the next rows."""
    text = rows.take_one("gathered")
    gathered = None if text == "none" else holding_of(text)
    counts = []
    while rows.is_next("counts"):
        row, lot = rows.take("counts", 2)
        row = number_of(row)
        checked(counts == [] or counts[-1][0] < row, row)
        counts.append((row, lot_written(lot)))
    learns = numbers_in(rows, "learns", many)
    late = promise_of(rows.take_one("late"))
    return (gathered, tuple(counts), learns, late)
