"""Rules with few marks ahead, and Rules that lead to a closing in one pass."""

from thesesothose.closed import closed_lots
from thesesothose.closing import follows
from thesesothose.keys import givers
from thesesothose.lots import all_lots, in_order, joined, within, without
from thesesothose.rules import Rules


def few_ahead(rules, many):
    """The Rules of the rows from each lot with at most so many marks, where they do not follow from those before."""
    grown = Rules(rules.marks, [])
    for lot in all_lots(rules.marks):
        if len(lot) <= many:
            row = (lot, without(rules.closing(lot), lot))
            if not follows(grown, row):
                grown = grown + row
    return grown


def lot_against(rules, many):
    """The first lot that is not closed and keeps all rows with at most so many marks ahead, or None."""
    for lot in closed_lots(few_ahead(rules, many)):
        if rules.closing(lot) != lot:
            return lot
    return None


def width(rules):
    """The least number of marks ahead with which no lot is against it."""
    # With all marks ahead nothing is lost, and no row follows from those with fewer marks ahead.
    every = few_ahead(rules, len(rules.marks))
    return max([len(ahead) for ahead, _ in every], default=0)


def direct(rules):
    """The Rules of the rows from each least lot that gives further marks to all of these."""
    behinds = {}
    for mark in rules.marks:
        for lot in givers(rules, mark):
            if mark not in lot:
                behinds[lot] = joined(behinds.get(lot, ()), (mark,))
    return Rules(rules.marks, [(lot, behinds[lot]) for lot in in_order(list(behinds))])


def once(rules, lot):
    """A lot with what stands behind in all rows whose ahead is within this very lot."""
    reached = lot
    for ahead, behind in rules:
        if within(ahead, lot):
            reached = joined(reached, behind)
    return reached


def is_direct(rules):
    """Whether one pass leads each lot to its closing."""
    return all([once(rules, lot) == rules.closing(lot) for lot in all_lots(rules.marks)])
