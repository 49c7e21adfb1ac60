"""All refusals: each bears just what was handed in, of whatever kind that is."""


class VoteError(ValueError):
    """The family of what is refused because it can't be done."""


class Missing(LookupError):
    """The family of what is refused because it isn't there."""


class TooMany(VoteError):
    """There are more points than may be told."""

    def __init__(self, many):
        self.many = many


class Twice(VoteError):
    """A point would be held twice."""

    def __init__(self, point):
        self.point = point


class OldBallot(VoteError):
    """The number is not above that of the last asking."""

    def __init__(self, number):
        self.number = number


class NotMost(VoteError):
    """The hand's asking has not come to more than half of all points."""

    def __init__(self, name):
        self.name = name


class Known(VoteError):
    """The word of the row is known already."""

    def __init__(self, row):
        self.row = row


class FarRow(VoteError):
    """The row is too far from those that are known."""

    def __init__(self, row):
        self.row = row


class NoLot(VoteError):
    """The thing is no lot, or a lot without points."""

    def __init__(self, thing):
        self.thing = thing


class NotHeld(VoteError):
    """The hand does not have the point."""

    def __init__(self, point):
        self.point = point


class Fallen(VoteError):
    """The hand is down."""

    def __init__(self, name):
        self.name = name


class Standing(VoteError):
    """The hand is up already."""

    def __init__(self, name):
        self.name = name


class NotMine(VoteError):
    """The thing is no letter to this hand."""

    def __init__(self, thing):
        self.thing = thing


class BadWorld(VoteError):
    """The thing is no shares of a world."""

    def __init__(self, thing):
        self.thing = thing


class NoDeed(VoteError):
    """The thing is no deed."""

    def __init__(self, thing):
        self.thing = thing


class NoWord(VoteError):
    """The thing is no word."""

    def __init__(self, thing):
        self.thing = thing


class NoText(VoteError):
    """The text is not so written, from this row on."""

    def __init__(self, row):
        self.row = row


class NoLine(VoteError):
    """The thing is no line that the desk knows."""

    def __init__(self, thing):
        self.thing = thing


class NoHand(Missing):
    """There is no such hand."""

    def __init__(self, thing):
        self.thing = thing


class NoLetter(Missing):
    """There is no such letter."""

    def __init__(self, thing):
        self.thing = thing


class NoPoint(Missing):
    """There is no such point."""

    def __init__(self, point):
        self.point = point
