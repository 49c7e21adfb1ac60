"""A desk: a world that is led and asked line by line."""

from ridingvotes.choosing import can_choose, least_choosers
from ridingvotes.errors import NoLine, NoPoint, NoText
from ridingvotes.papers import paper
from ridingvotes.parsing import part_of
from ridingvotes.reading import read_world
from ridingvotes.showing import NOTHING, listed, show_ballot, show_holding, show_letter, show_lot, show_words
from ridingvotes.showing import show_world

# What stands behind the word of each line: numbers and lots.
FORMS = {
    "ask": ("number", "number"),
    "offer": ("number", "number", "number"),
    "give": ("number", "number", "lot"),
    "again": ("number",),
    "fall": ("number",),
    "rise": ("number",),
    "come": ("number",),
    "lose": ("number",),
    "double": ("number",),
    "road": (),
    "holds": ("number",),
    "knows": ("number",),
    "where": ("number",),
    "chosen": ("number",),
    "paper": ("number",),
    "least": (),
    "text": (),
}
# Behind these stand hands, one at least.
OF_HANDS = ("settle", "choose")


def parts_of(line):
    """The line's word and the tuple of what stands behind it; the line is of whatever kind."""
    if not isinstance(line, str):
        raise NoLine(line)
    word, *texts = line.split(" ")
    forms = FORMS.get(word)
    if word in OF_HANDS:
        forms = ("number",) * max(1, len(texts))
    if forms is None or len(forms) != len(texts):
        raise NoLine(line)
    try:
        return (word, tuple([part_of(form, text) for form, text in zip(forms, texts)]))
    except NoText:
        raise NoLine(line) from None


def tell_settle(world, parts):
    """How many letters came."""
    return str(world.settle(parts))


def tell_road(world, _):
    """The letters under way."""
    return " ; ".join([show_letter(letter) for letter in world.road()]) or NOTHING


def tell_holds(world, parts):
    """The holding of a hand."""
    return show_holding(world.hand(parts[0]).holding)


def tell_knows(world, parts):
    """The words that a hand knows without a gap."""
    return show_words(world.hand(parts[0]).known)


def tell_where(world, parts):
    """The place of a point."""
    point = parts[0]
    for first, last, place, _, _ in world.spots():
        if first <= point <= last:
            return " ".join([str(number) for number in place])
    raise NoPoint(point)


def tell_chosen(world, parts):
    """The chosen word of a row."""
    return str(dict(world.chosen()).get(parts[0], NOTHING))


def tell_paper(world, parts):
    """The paper of a row."""
    told = paper(world, parts[0])
    if told is None:
        return NOTHING
    _, row, ballot, word, lots = told
    texts = [f"{name} {show_lot(lot)}" for name, lot in lots]
    return " ; ".join([f"{row} {show_ballot(ballot)} {word}", *texts])


def tell_choose(world, parts):
    """Whether the hands can choose."""
    world.check_hands(parts)
    return "yes" if can_choose(world, parts) else "no"


def tell_least(world, _):
    """The least sets of hands that can choose."""
    return " ".join([listed([str(name) for name in hands]) for hands in least_choosers(world)]) or NOTHING


def tell_text(world, _):
    """The world's text, in one row."""
    return show_world(world).replace("\n", " | ")


# How each line that is no deed is answered.
ANSWERS = {
    "settle": tell_settle,
    "road": tell_road,
    "holds": tell_holds,
    "knows": tell_knows,
    "where": tell_where,
    "chosen": tell_chosen,
    "paper": tell_paper,
    "choose": tell_choose,
    "least": tell_least,
    "text": tell_text,
}


class Desk:
    """A world, and its answers to lines."""

    def __init__(self, text):
        self.world = read_world(text)

    def say(self, line):
        """Does or asks what the line says, which is of whatever kind: told is a text."""
        word, parts = parts_of(line)
        if word in ANSWERS:
            answer = ANSWERS[word]
            return answer(self.world, parts)
        told = self.world.do((word, *parts))
        return "done" if told is None else str(told)
