"""Texts of lots, holdings, letters and worlds."""

from ridingvotes.letters import PARTS
from ridingvotes.slips import NONE

# What stands where nothing is.
NOTHING = "-"


def show_lot(lot):
    """The text of the lot."""
    return listed([show_run(first, last) for first, last in lot])


def show_holding(holding):
    """The text of the holding."""
    return ";".join([f"{first}-{last}:{show_slip(slip)}" for first, last, slip in holding]) or NOTHING


def show_letter(letter):
    """The text of the letter."""
    word, sender, to = letter[:3]
    parts = [show_part(kind, part) for kind, part in zip(PARTS[word], letter[3:])]
    return " ".join([word, str(sender), str(to), *parts])


def show_world(world):
    """The text of the world."""
    rows = [f"world {world.points()} {world.hands()}"]
    for book, mind in world.books_and_minds():
        rows.extend(book_rows(book, mind is not None))
        if mind is not None:
            rows.extend(mind_rows(mind))
    rows.extend(["letter " + show_letter(letter) for letter in world.road()])
    return "\n".join(rows)


def listed(texts):
    """The texts, parted by commas."""
    return ",".join(texts) or NOTHING


def show_run(first, last):
    """The text of a run of a lot."""
    return str(first) if first == last else f"{first}-{last}"


def show_ballot(ballot):
    """The text of a ballot, or of NONE."""
    number, hand = ballot
    return NOTHING if ballot == NONE else f"{number}.{hand}"


def show_slip(slip):
    """The text of a slip."""
    promised, taken = slip
    return "/".join([show_ballot(promised)] + [f"{row}={show_ballot(ballot)}={word}" for row, ballot, word in taken])


def show_words(words):
    """The text of words."""
    return listed([str(word) for word in words])


def show_pairs(pairs):
    """The text of pairs of a row and a word."""
    return listed([f"{row}={word}" for row, word in pairs])


def show_part(kind, part):
    """The text of a part of a letter, of this kind of parts."""
    if kind == "ballot":
        return show_ballot(part)
    if kind == "holding":
        return show_holding(part)
    if kind == "lot":
        return show_lot(part)
    if kind == "words":
        return show_words(part)
    return str(part)


def numbers_row(word, numbers):
    """The row of this word and the numbers."""
    return " ".join([word] + [str(number) for number in numbers])


def book_rows(book, is_up):
    """The rows of what a hand has written down."""
    name, holding, heard, standing, number, offers, known, more, outbox, sent, taken, log = book
    rows = [f"hand {name} up" if is_up else f"hand {name} down"]
    rows.append("holds " + show_holding(holding))
    rows.append(f"heard {show_ballot(heard)} {show_pairs(standing)}")
    rows.append(f"asks {number} {show_pairs(offers)}")
    rows.append("knows " + show_words(known))
    rows.append("more " + show_pairs(more))
    for to, at, part, since, words in outbox:
        rows.append(f"out {to} {at} {show_holding(part)} {since} {show_words(words)}")
    rows.append(numbers_row("sent", sent))
    rows.append(numbers_row("taken", taken))
    for row, ballot, word, lot in log:
        rows.append(f"log {row} {show_ballot(ballot)} {word} {show_lot(lot)}")
    return rows


def mind_rows(mind):
    """The rows of what a fall takes."""
    gathered, counts, learns, late = mind
    rows = ["gathered none" if gathered is None else "gathered " + show_holding(gathered)]
    rows.extend([f"counts {row} {show_lot(lot)}" for row, lot in counts])
    rows.append(numbers_row("learns", learns))
    rows.append("late " + show_ballot(late))
    return rows
