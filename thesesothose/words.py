"""What an integer, a mark, a lot, a rule and a thing are, asked of any value."""

from thesesothose.lots import common, lot_of, within

MOST_LETTERS = 8


def is_integer(thing):
    return isinstance(thing, int) and not isinstance(thing, bool)


def is_index(many, thing):
    """Whether a thing, any value, is an index of a list with so many items."""
    return is_integer(thing) and 0 <= thing < many


def is_mark(thing):
    if not isinstance(thing, str) or not 1 <= len(thing) <= MOST_LETTERS:
        return False
    return thing.isascii() and thing.isalpha() and thing.islower()


def is_lot(thing):
    if not isinstance(thing, tuple) or not all([is_mark(mark) for mark in thing]):
        return False
    return thing == lot_of(thing)


def is_rule(thing):
    if not isinstance(thing, tuple) or len(thing) != 2:
        return False
    return is_lot(thing[0]) and is_lot(thing[1])


def is_thing(thing):
    # A pair of lots is a rule in form; what has and lacks may not do is meet.
    return is_rule(thing) and common(thing[0], thing[1]) == ()


def is_lot_of(marks, thing):
    """Whether a thing, any value, is a lot within the marks."""
    return is_lot(thing) and within(thing, marks)


def is_rule_of(marks, thing):
    """Whether a thing, any value, is a rule of the marks."""
    return is_rule(thing) and within(thing[0], marks) and within(thing[1], marks)


def is_thing_of(marks, thing):
    """Whether a thing, any value, is a thing, told in part, of the marks."""
    return is_thing(thing) and is_rule_of(marks, thing)
