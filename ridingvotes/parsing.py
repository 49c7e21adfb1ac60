"""What words of texts write. Each function is refused with NoText, of row 0, of a text that isn't so written."""

from ridingvotes.errors import NoText
from ridingvotes.holdings import is_holding
from ridingvotes.lots import is_lot
from ridingvotes.showing import NOTHING
from ridingvotes.slips import FRESH, NONE, is_ballot, is_slip

MOST_FIGURES = 12


def checked(is_so, thing):
    """The thing, refused where it isn't so."""
    if not is_so:
        raise NoText(0)
    return thing


def parted(text, sign, many):
    """The parts of the text that the sign parts, refused where there are not so many."""
    parts = text.split(sign)
    return checked(len(parts) == many, parts)


def number_of(text):
    """The whole number that the text writes."""
    # Other signs than the ten figures pass for digits in Python, too; int takes more than these figures.
    is_number = text.isascii() and text.isdigit() and len(text) <= MOST_FIGURES
    checked(is_number and (text == "0" or not text.startswith("0")), text)
    return int(text)


def ballot_of(text):
    """The ballot that the text writes."""
    number, hand = parted(text, ".", 2)
    ballot = (number_of(number), number_of(hand))
    return checked(is_ballot(ballot), ballot)


def promise_of(text):
    """The ballot, or NONE, that the text writes."""
    return NONE if text == NOTHING else ballot_of(text)


def run_of(text):
    """The run of a lot that the text writes."""
    if "-" not in text:
        return (number_of(text), number_of(text))
    first, last = [number_of(part) for part in parted(text, "-", 2)]
    return checked(first < last, (first, last))


def lot_written(text):
    """The lot that the text writes."""
    if text == NOTHING:
        return ()
    lot = tuple([run_of(part) for part in text.split(",")])
    return checked(is_lot(lot), lot)


def taking_of(text):
    """The (row, ballot, word) of a slip that the text writes."""
    row, ballot, word = parted(text, "=", 3)
    return (number_of(row), ballot_of(ballot), number_of(word))


def slip_of(text):
    """The slip that the text writes."""
    if text == NOTHING:
        return FRESH
    promised, *taken = text.split("/")
    slip = (ballot_of(promised), tuple([taking_of(part) for part in taken]))
    return checked(is_slip(slip), slip)


def held_run_of(text):
    """The run of a holding that the text writes."""
    run, slip = parted(text, ":", 2)
    first, last = parted(run, "-", 2)
    return (number_of(first), number_of(last), slip_of(slip))


def holding_of(text):
    """The holding that the text writes."""
    if text == NOTHING:
        return ()
    holding = tuple([held_run_of(part) for part in text.split(";")])
    return checked(is_holding(holding), holding)


def words_of(text):
    """The tuple of words that the text writes."""
    if text == NOTHING:
        return ()
    return tuple([number_of(part) for part in text.split(",")])


def pair_of(text):
    """The (row, word) that the text writes."""
    row, word = parted(text, "=", 2)
    return (number_of(row), number_of(word))


def pairs_of(text):
    """The tuple of (row, word), rising by its rows, that the text writes."""
    if text == NOTHING:
        return ()
    pairs = tuple([pair_of(part) for part in text.split(",")])
    return checked(rises([row for row, _ in pairs]), pairs)


def rises(things):
    """Whether each thing is greater than the one ahead of it."""
    return all([one < other for one, other in zip(things, things[1:])])


def part_of(kind, text):
    """The part of a letter, of this kind of parts, that the text writes."""
    if kind == "ballot":
        return ballot_of(text)
    if kind == "holding":
        return holding_of(text)
    if kind == "lot":
        return lot_written(text)
    if kind == "words":
        return words_of(text)
    return number_of(text)
