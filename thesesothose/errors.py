"""The errors of this package; each keeps what it was constructed from."""


class TheseError(ValueError):
    """Any error of this package."""


class Wrong(TheseError):
    """An argument, told by its place, is not as described."""

    def __init__(self, place):
        self.place = place


class NoRow(TheseError):
    """No row, or lot of a Table, has this index."""

    def __init__(self, index):
        self.index = index


class NoThing(TheseError):
    """No thing has this number."""

    def __init__(self, number):
        self.number = number


class NoLot(TheseError):
    """This is none of the lots in question."""

    def __init__(self, lot):
        self.lot = lot


class NoNumber(TheseError):
    """No closed lot has this number."""

    def __init__(self, number):
        self.number = number


class NoMark(TheseError):
    """This mark must not be there."""

    def __init__(self, mark):
        self.mark = mark


class Clash(TheseError):
    """The answers do not stand; a thing, told by its number, shows it."""

    def __init__(self, number):
        self.number = number


class NotPossible(TheseError):
    """The theory is not possible for the answers."""


class Unlike(TheseError):
    """The two do not have the same marks, or two marks would become one."""


class TooMany(TheseError):
    """There would be more than this limit."""

    def __init__(self, limit):
        self.limit = limit


class Refused(TheseError):
    """With this answer the answers would not stand."""

    def __init__(self, answer):
        self.answer = answer


class BadAnswer(TheseError):
    """The answer does not fit what it answers."""


class Nothing(TheseError):
    """There is nothing to take back or to do again."""


class NoEntry(TheseError):
    """The log has not so many entries."""

    def __init__(self, many):
        self.many = many


class NoText(TheseError):
    """This is not the text of anything."""


class NoCommand(TheseError):
    """This line tells nothing to do."""
