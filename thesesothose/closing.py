"""What a lot comes to by the rows of Rules, and how."""

from thesesothose.lots import joined, within
from thesesothose.rules import breaks


def closing(rules, lot):
    """The closing of a lot of the marks."""
    return rules.closing(lot)


def broken(rules, lot):
    """The ascending list of the indexes of the rows that a lot of the marks breaks."""
    return [index for index, row in enumerate(rules) if breaks(lot, row)]


def gained(rules, lot):
    """The list of the tuples (index, lot) of the rows that are done, and of what is reached by each.

    The rows are gone through from row 0, again and again, until none is broken.
    """
    steps = []
    reached = lot
    while broken(rules, reached):
        for index, row in enumerate(rules):
            if breaks(reached, row):
                reached = joined(reached, row[1])
                steps.append((index, reached))
    return steps


def follows(rules, rule):
    """Whether a rule of the marks follows from the Rules."""
    ahead, behind = rule
    return within(behind, rules.closing(ahead))
