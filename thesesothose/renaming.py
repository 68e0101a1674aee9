"""Other names for marks, and names by which Rules are led to others, or to themselves."""

from thesesothose.answers import Answers
from thesesothose.closed import closed_lots
from thesesothose.errors import Unlike
from thesesothose.lots import in_order, lot_of, without
from thesesothose.rules import Rules
from thesesothose.tables import Table


def lot_led(lot, names):
    """The lot of the other marks; a mark without another one stays."""
    return lot_of([names.get(mark, mark) for mark in lot])


def pair_led(pair, names):
    """A rule or a thing with the other marks."""
    return (lot_led(pair[0], names), lot_led(pair[1], names))


def all_marks_led(marks, names):
    """The lot of the other marks of a whole object; Unlike if two of its marks would become one."""
    led = lot_led(marks, names)
    if len(led) != len(marks):
        raise Unlike()
    return led


def renamed(rules, names):
    """The Rules with other marks."""
    return Rules(all_marks_led(rules.marks, names), [pair_led(row, names) for row in rules])


def table_renamed(table, names):
    """The Table with other marks."""
    return Table(all_marks_led(table.marks, names), [lot_led(lot, names) for lot in table])


def answers_renamed(answers, names):
    """The Answers with other marks."""
    return Answers(renamed(answers.yeses, names), [pair_led(thing, names) for thing in answers])


def leading(one, other):
    """A dict by which one Rules is led to Rules that are alike to another one, or None."""
    found = all_leading(one, other)
    return found[0] if found else None


def turnings(rules):
    """The list of all dicts by which Rules are led to alike ones, ascending by the lists of their values."""
    return all_leading(rules, rules)


def all_leading(one, other):
    """The list of all dicts by which one Rules is led to Rules that are alike to another one."""
    if len(one.marks) != len(other.marks):
        return []
    lots, others = closed_lots(one), closed_lots(other)
    every = [dict(zip(one.marks, order)) for order in all_orders(other.marks)]
    return [names for names in every if in_order([lot_led(lot, names) for lot in lots]) == others]


def all_orders(marks):
    """The list of all orders of some marks, as Python sorts tuples."""
    if marks == ():
        return [()]
    return [(mark, *order) for mark in marks for order in all_orders(without(marks, (mark,)))]
