"""Least lots that give marks, and lots of which no mark follows from the others."""

from thesesothose.lots import all_lots, least_of, without


def keys(rules):
    """The list, in order, of the least lots whose closing has all marks."""
    return generators(rules, rules.marks)


def givers(rules, mark):
    """The list, in order, of the least lots whose closing has a mark."""
    return least_of([lot for lot in all_lots(rules.marks) if mark in rules.closing(lot)])


def generators(rules, lot):
    """The list, in order, of the least lots with the closing of a lot."""
    reached = rules.closing(lot)
    # A lot stands within its closing, so no others can have this one.
    return least_of([other for other in all_lots(reached) if rules.closing(other) == reached])


def is_independent(rules, lot):
    """Whether no mark of a lot stands in the closing of the lot without this mark."""
    return not any([mark in rules.closing(without(lot, (mark,))) for mark in lot])


def independent_lots(rules):
    """The list of all independent lots, in order."""
    return [lot for lot in all_lots(rules.marks) if is_independent(rules, lot)]
