"""Reading back what `notation` shows: just its very texts."""

from thesesothose.answers import Answers, are_things_of
from thesesothose.book import Book
from thesesothose.errors import NoText, TheseError
from thesesothose.rules import Rules, are_rules_of
from thesesothose.tables import Table, are_lots_of
from thesesothose.words import is_lot, is_thing

MOST_FIGURES = 9


def parts_of(text, sign):
    """The list of the parts of a text, any value, between which a sign stands."""
    if not isinstance(text, str):
        raise NoText()
    return text.split(sign)


def two_parts_of(text, sign):
    """The two parts of a text, any value, between which a sign stands once."""
    parts = parts_of(text, sign)
    if len(parts) != 2:
        raise NoText()
    return parts


def behind_word(word, text):
    """What stands in a text behind a word and a blank, with which it begins."""
    start = f"{word} "
    if not text.startswith(start):
        raise NoText()
    return text[len(start):]


def read_number(text):
    """The number from 0 on, with at most nine figures."""
    if not text.isascii() or not text.isdigit() or len(text) > MOST_FIGURES:
        raise NoText()
    number = int(text)
    if str(number) != text:
        raise NoText()
    return number


def read_lot(text):
    """The lot that a text, any value, shows."""
    lot = tuple(parts_of(text, " "))
    if lot == (".",):
        return ()
    if not is_lot(lot):
        raise NoText()
    return lot


def read_rule(text):
    """The rule that a text, any value, shows."""
    ahead, behind = two_parts_of(text, " > ")
    return (read_lot(ahead), read_lot(behind))


def read_thing(text):
    """The thing that a text, any value, shows."""
    has, lacks = two_parts_of(text, " / ")
    thing = (read_lot(has), read_lot(lacks))
    if not is_thing(thing):
        raise NoText()
    return thing


def marks_and_lines(text):
    """The lot of the marks with which a text, any value, begins, and the list of the lines behind it."""
    lines = parts_of(text, "\n")
    return (read_lot(behind_word("marks", lines[0])), lines[1:])


def read_rules(text):
    """The Rules that a text, any value, shows."""
    marks, lines = marks_and_lines(text)
    rows = [read_rule(line) for line in lines]
    if not are_rules_of(marks, rows):
        raise NoText()
    return Rules(marks, rows)


def read_table(text):
    """The Table that a text, any value, shows."""
    marks, lines = marks_and_lines(text)
    lots = [read_lot(line) for line in lines]
    if not are_lots_of(marks, lots):
        raise NoText()
    return Table(marks, lots)


def read_answers(text):
    """The Answers that a text, any value, shows."""
    marks, lines = marks_and_lines(text)
    # All yeses stand before the things; where they do not, a line is not read as what it is.
    many = len([line for line in lines if line.startswith("yes ")])
    rows = [read_rule(behind_word("yes", line)) for line in lines[:many]]
    things = [read_thing(behind_word("thing", line)) for line in lines[many:]]
    if not are_rules_of(marks, rows) or not are_things_of(marks, things):
        raise NoText()
    return Answers(Rules(marks, rows), things)


def read_entry(text):
    """The entry that a text, any value, shows."""
    if not isinstance(text, str):
        raise NoText()
    if text.startswith("yes "):
        return ("yes", read_rule(behind_word("yes", text)))
    for word in ("strike yes", "strike thing"):
        if text.startswith(word):
            return (word, read_number(behind_word(word, text)))
    told, thing = two_parts_of(text, " : ")
    if told.startswith("no "):
        return ("no", read_rule(behind_word("no", told)), read_thing(thing))
    return ("more", read_number(behind_word("more", told)), read_thing(thing))


def read_book(text):
    """The Book that a text, any value, shows, with nothing to be done again."""
    marks, lines = marks_and_lines(text)
    book = Book(marks)
    for entry in [read_entry(line) for line in lines]:
        try:
            book.do(entry)
        except TheseError as e:
            raise NoText() from e
    return book
