"""Derivations: lists of indexes of rows that lead from what stands ahead in a rule to what stands behind."""

from thesesothose.closing import gained
from thesesothose.lots import joined, within
from thesesothose.rules import breaks
from thesesothose.words import is_index


def derivation(rules, rule):
    """The indexes of the rows that `gained` does until the rule is met, or None if it does not follow."""
    ahead, behind = rule
    indexes = []
    if within(behind, ahead):
        return indexes
    for index, reached in gained(rules, ahead):
        indexes.append(index)
        if within(behind, reached):
            return indexes
    return None


def shortest(rules, rule):
    """The first of the derivations with the fewest rows, or None.

    Lots are come to by one row more at a time. Those before are gone through in the order of the
    lists that led to them, so the first list that leads to a lot is the first of the shortest ones.
    """
    ahead, behind = rule
    lists = {ahead: []}
    latest = [ahead]
    while latest:
        for lot in latest:
            if within(behind, lot):
                return lists[lot]
        found = [(grown, [*lists[lot], index]) for lot in latest for index, grown in _grown_by_one_row(rules, lot)]
        latest = []
        for grown, indexes in found:
            if grown not in lists:
                lists[grown] = indexes
                latest.append(grown)
    return None


def _grown_by_one_row(rules, lot):
    return [(index, joined(lot, row[1])) for index, row in enumerate(rules) if breaks(lot, row)]


def is_derivation(rules, rule, thing):
    """Whether a thing, any value, is a derivation of a rule of the marks."""
    if not isinstance(thing, list):
        return False
    ahead, behind = rule
    reached = ahead
    for index in thing:
        if not is_index(len(rules), index):
            return False
        row = rules[index]
        if not within(row[0], reached):
            return False
        reached = joined(reached, row[1])
    return within(behind, reached)


def against(rules, rule):
    """The first closed lot that breaks the rule, or None if the rule follows."""
    ahead, behind = rule
    # Each closed lot that holds ahead holds its closing, which therefore breaks the rule if any does.
    reached = rules.closing(ahead)
    if within(behind, reached):
        return None
    return reached
