"""A book of answers, which stand, led entry by entry."""

from thesesothose.answers import Answers, is_against, thing_at
from thesesothose.deriving import derivation
from thesesothose.errors import BadAnswer, Clash, NoEntry, Nothing, Refused, TooMany, Wrong
from thesesothose.lots import common
from thesesothose.rules import Rules
from thesesothose.things import told_more
from thesesothose.words import is_index, is_integer, is_lot, is_rule_of, is_thing_of

MOST_ENTRIES = 60


def is_entry(marks, thing):
    """Whether a thing, any value, is an entry with a lot of marks."""
    if not isinstance(thing, tuple) or len(thing) not in (2, 3):
        return False
    word, told = thing[0], thing[1]
    if len(thing) == 2:
        if word == "yes":
            return is_rule_of(marks, told)
        return word in ("strike yes", "strike thing") and is_integer(told)
    if word == "no":
        return is_rule_of(marks, told) and is_thing_of(marks, thing[2])
    return word == "more" and is_integer(told) and is_thing_of(marks, thing[2])


def answers_behind(answers, entry):
    """The answers behind an entry, which need not stand."""
    word, told = entry[0], entry[1]
    if word == "yes":
        return answers.with_yes(told)
    if word == "strike yes":
        return answers.without_yes(told)
    if word == "strike thing":
        return answers.without_thing(told)
    thing = entry[2]
    if word == "more":
        if told_more(thing_at(answers, told), thing) is None:
            raise BadAnswer()
        return answers.with_more(told, thing)
    if not is_against(answers.yeses, told, thing):
        raise BadAnswer()
    return answers.with_thing(thing)


class Book:
    """Marks, and a log of entries that were done one behind the other."""

    def __init__(self, marks):
        if not is_lot(marks):
            raise Wrong(0)
        self._marks = marks
        # These lists are never changed, but others are put in their place: so they can be kept and passed on.
        self._log = []
        self._past = [Answers(Rules(marks, []), [])]
        self._undone = []

    @property
    def marks(self):
        return self._marks

    @property
    def answers(self):
        return self._past[-1]

    def log(self):
        """The list of the entries that were done."""
        return list(self._log)

    def do(self, entry):
        """Does an entry, behind which nothing can be done again."""
        reached = self._behind(entry)
        if len(self._log) >= MOST_ENTRIES:
            raise TooMany(MOST_ENTRIES)
        number = reached.clashing()
        if number is not None:
            raise Refused(entry) from Clash(number)
        self._put(entry, reached)
        self._undone = []

    def cause(self, entry):
        """The first thing that would clash behind an entry, a mark that shows it, and the rows to it; or None."""
        reached = self._behind(entry)
        number = reached.clashing()
        if number is None:
            return None
        has, lacks = reached.things()[number]
        mark = common(lacks, reached.yeses.closing(has))[0]
        return (number, mark, derivation(reached.yeses, (has, (mark,))))

    def undo(self):
        """Takes back the last entry, and returns it."""
        if not self._log:
            raise Nothing()
        entry = self._log[-1]
        self._log = self._log[:-1]
        self._past = self._past[:-1]
        self._undone = [*self._undone, entry]
        return entry

    def redo(self):
        """Does again the entry that was taken back last, and returns it."""
        if not self._undone:
            raise Nothing()
        entry = self._undone[-1]
        self._undone = self._undone[:-1]
        self._put(entry, answers_behind(self.answers, entry))
        return entry

    def past(self, many):
        """The Answers as they were behind the first so many entries."""
        if not is_index(len(self._past), many):
            raise NoEntry(many)
        return self._past[many]

    def copied(self):
        """An equal Book that goes on by itself."""
        other = Book(self._marks)
        other._log, other._past, other._undone = self._log, self._past, self._undone
        return other

    def trial(self, act):
        """What a function returns that is called with the Book, which is as it was behind it."""
        log, past, undone = self._log, self._past, self._undone
        try:
            return act(self)
        finally:
            self._log, self._past, self._undone = log, past, undone

    def _behind(self, entry):
        if not is_entry(self._marks, entry):
            raise Wrong(0)
        return answers_behind(self.answers, entry)

    def _put(self, entry, reached):
        self._log = [*self._log, entry]
        self._past = [*self._past, reached]

    def __eq__(self, other):
        return isinstance(other, Book) and self._marks == other._marks and self._log == other._log

    def __len__(self):
        return len(self._log)

    def __iter__(self):
        return iter(self._log)

    def __getitem__(self, at):
        return self.answers[at]

    def __setitem__(self, at, worth):
        if worth is None:
            self.do(("yes", at))
        else:
            self.do(("no", at, worth))
