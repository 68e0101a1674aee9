"""Rules that hold in a table but for some of its lots."""

from thesesothose.lots import all_lots, least_of, without
from thesesothose.rules import breaks


def breakers(table, rule):
    """The ascending list of the indexes of the lots of a table that break a rule."""
    return [index for index, lot in enumerate(table) if breaks(lot, rule)]


def exceptions(table, rule):
    """The number of the lots of a table that break a rule."""
    return len(breakers(table, rule))


def holding_but(table, mark, many):
    """The list, in order, of the least lots of the other marks that give a mark with at most so many exceptions."""
    lots = all_lots(without(table.marks, (mark,)))
    return least_of([lot for lot in lots if exceptions(table, (lot, (mark,))) <= many])


def costs(table, rules):
    """The list of the numbers of exceptions of each row."""
    return [exceptions(table, row) for row in rules]


def all_breakers(table, rules):
    """The ascending list of the indexes of the lots of a table that break some row."""
    return [index for index, lot in enumerate(table) if any([breaks(lot, row) for row in rules])]
