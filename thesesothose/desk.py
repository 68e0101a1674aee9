"""A desk, which leads a book of answers by lines of text."""

from thesesothose.asking import next_question
from thesesothose.book import Book, is_entry
from thesesothose.errors import NoCommand, NoText
from thesesothose.leastlist import least_list
from thesesothose.notation import show_answers, show_entry, show_lot, show_rule
from thesesothose.papers import paper
from thesesothose.readers import read_entry, read_lot, read_number, read_rule
from thesesothose.words import is_lot_of, is_rule_of

NOTHING = "nothing"


def told(read, text):
    """What a text tells, by a function that reads it."""
    try:
        return read(text)
    except NoText as e:
        raise NoCommand() from e


def rule_told(book, text):
    """The rule of the marks of a book that a text tells."""
    rule = told(read_rule, text)
    if not is_rule_of(book.marks, rule):
        raise NoCommand()
    return rule


def in_one_line(answers):
    """The text of answers, all in one line."""
    return show_answers(answers).replace("\n", "; ")


def rows_shown(indexes):
    """The text of a list of indexes of rows."""
    return " ".join([str(index) for index in indexes]) if indexes else "at once"


def lots_shown(table):
    """The text of the lots of a table."""
    return ", ".join([show_lot(lot) for lot in table])


def say_undo(book):
    """Takes back an entry, and tells which."""
    return show_entry(book.undo())


def say_redo(book):
    """Does an entry again, and tells which."""
    return show_entry(book.redo())


def say_next(book):
    """The next question."""
    rule = next_question(book.answers)
    return NOTHING if rule is None else show_rule(rule)


def say_list(book):
    """The least list of the yeses."""
    rows = least_list(book.answers.yeses).rows()
    return "; ".join([show_rule(row) for row in rows]) if rows else NOTHING


def say_how_many_open(book):
    """The number of all that `opens` lists."""
    return str(len(book.answers.opens()))


def say_answers(book):
    """The answers as they are."""
    return in_one_line(book.answers)


def say_word(book, text):
    """Whether a rule is sure, refuted or open."""
    return book[rule_told(book, text)]


def say_why(book, text):
    """What shows that a rule is so."""
    found = paper(book.answers, rule_told(book, text))
    if found[0] == "sure":
        return f"sure by {rows_shown(found[1])}"
    if found[0] == "open":
        return f"open: {lots_shown(found[1])} | {lots_shown(found[2])}"
    _, number, to_ahead, to_mark, mark = found
    return f"refuted by {number}: {rows_shown(to_ahead)}; to {mark} {rows_shown(to_mark)}"


def say_closing(book, text):
    """What the yeses lead a lot to."""
    lot = told(read_lot, text)
    if not is_lot_of(book.marks, lot):
        raise NoCommand()
    return show_lot(book.answers.yeses.closing(lot))


def say_past(book, text):
    """The answers as they were behind some entries."""
    return in_one_line(book.past(told(read_number, text)))


def say_entry(book, text):
    """Does an entry, and tells how many yeses and things there are behind it."""
    entry = told(read_entry, text)
    if not is_entry(book.marks, entry):
        raise NoCommand()
    book.do(entry)
    return f"{len(book.answers.yeses)} yes, {len(book.answers)} things"


WORDS_ALONE = {
    "undo": say_undo, "redo": say_redo, "next": say_next, "list": say_list, "open": say_how_many_open,
    "answers": say_answers,
}
WORDS_BEFORE_A_TEXT = {"ask": say_word, "why": say_why, "closing": say_closing, "past": say_past}


class Desk:
    """A Book of its own, led by lines."""

    def __init__(self, marks):
        self._book = Book(marks)

    def book(self):
        """An equal Book that goes on by itself."""
        return self._book.copied()

    def say(self, line):
        """Does what a line, any value, tells, and returns its answer."""
        if not isinstance(line, str):
            raise NoCommand()
        if line in WORDS_ALONE:
            action = WORDS_ALONE[line]
            return action(self._book)
        word, _, rest = line.partition(" ")
        if word in WORDS_BEFORE_A_TEXT:
            action_with = WORDS_BEFORE_A_TEXT[word]
            return action_with(self._book, rest)
        return say_entry(self._book, line)
