"""Texts with one thing otherwise."""

SIGNS = "0123456789-.,;:/= \n\tabx+_"
# They look like figures, blanks or strokes, and Python takes some of them for such.
STRANGE = ("\u0663", "\u00b2", "\uff11", "\u2460", "\u00bd", "\u2212", "\u2013", "\u00a0", "\u3000", "\x0b", "\x0c",
           "\r",
           "\x1c", "\x85", "\u2028", "\x00", "\uff0c", "\u0966")


def signs_otherwise(text, dice=None, many=None):
    """The text with a sign out, one in, one otherwise, two exchanged: all such, or so many by dice."""
    places = [(at, change) for at in range(len(text) + 1) for change in range(3 + 2 * len(SIGNS))]
    if many is not None and many < len(places):
        places = dice.sample(places, many)
    found = set()
    for at, change in places:
        if change == 0:
            found.add(text[:at] + text[at + 1:])
        elif change == 1:
            found.add(text[:at] + text[at + 1:at + 2] + text[at:at + 1] + text[at + 2:])
        elif change == 2:
            found.add(text[:at] + text[at:at + 1] * 2 + text[at + 1:])
        else:
            sign = SIGNS[(change - 3) // 2]
            found.add(text[:at] + sign + text[at + change % 2:])
    return sorted(found - {text})


def strange_signs(text):
    """The text with one figure, blank or stroke otherwise, that looks alike."""
    return [text[:at] + sign + text[at + 1:] for at in range(len(text)) for sign in STRANGE] + [
        text + sign for sign in STRANGE] + [sign + text for sign in STRANGE]


def rows_otherwise(text):
    """The text with a row out, twice, exchanged with each of the next ones, cut behind it, blank, with blanks."""
    rows = text.split("\n")
    found = []
    for at, row in enumerate(rows):
        found += [rows[:at] + rows[at + 1:], rows[:at] + [row] + rows[at:], rows[:at], rows[:at] + [""] + rows[at:],
                  rows[:at] + [""] + rows[at + 1:], rows[:at] + [row + " "] + rows[at + 1:],
                  rows[:at] + [" " + row] + rows[at + 1:], rows[:at] + [row.replace(" ", "  ", 1)] + rows[at + 1:],
                  rows[:at] + [row + " 0"] + rows[at + 1:], rows[:at] + [row.rpartition(" ")[0]] + rows[at + 1:],
                  rows[:at] + [row.upper()] + rows[at + 1:], rows + [row]]
        for other in range(at + 1, min(at + 20, len(rows))):
            found.append(rows[:at] + [rows[other]] + rows[at + 1:other] + [row] + rows[other + 1:])
    return sorted({"\n".join(changed) for changed in found} - {text})


def numbers_otherwise(text):
    """The text with one of its numbers otherwise: noughts ahead, thirteen figures and thousands, and others."""
    found, begin = [], None
    for at, sign in enumerate(text + " "):
        if sign in "0123456789":
            begin = at if begin is None else begin
        elif begin is not None:
            number = text[begin:at]
            others = ["0" + number, "00", "-" + number, "+" + number, "1" * 13, "1" + "0" * 12, "9" * 12, "1" * 5000,
                      "0", "1", "2", "9", str(int(number) + 1), str(max(0, int(number) - 1)), "1_0", number + ".0",
                      "1e3",
                      "0x1", "", "-", "none", "x"]
            found += [text[:begin] + other + text[at:] for other in others]
            begin = None
    return sorted(set(found) - {text})
