"""Theories that are made of others, told by their least lists.

Each of them is made as a Table, by the lots of which it is told. The narrow lots of a theory are such.
"""

from thesesothose.alike import must_have_one_lot_of_marks
from thesesothose.closed import closed_lots
from thesesothose.errors import NoMark
from thesesothose.leastlist import least_list
from thesesothose.lots import common, joined, within
from thesesothose.tables import Table, table_of


def of_both(one, other):
    """The least list of the theory whose closings are what those of both have in common."""
    return least_list(table_of(one) | table_of(other))


def from_both(one, other):
    """The least list of the theory whose closed lots are those that are closed by both."""
    must_have_one_lot_of_marks(one, other)
    lots = [lot for lot in closed_lots(one) if other.closing(lot) == lot]
    return least_list(Table(one.marks, lots))


def beside(one, other):
    """The least list of the theory whose closings are those by both, each of its own marks."""
    shared = common(one.marks, other.marks)
    if shared != ():
        raise NoMark(shared[0])
    lots = [joined(lot, other.marks) for lot in table_of(one)] + [joined(one.marks, lot) for lot in table_of(other)]
    return least_list(Table(joined(one.marks, other.marks), lots))


def cut_to(theory, marks):
    """The least list of the theory whose closings are what those of another one have of some marks."""
    return least_list(table_of(theory).cut(marks))


def told_by(theory, mark, lot):
    """The least list of a theory with a further mark, which just those have that have all of a lot."""
    if mark in theory.marks:
        raise NoMark(mark)
    lots = [joined(other, (mark,)) if within(lot, other) else other for other in table_of(theory)]
    return least_list(Table(joined(theory.marks, (mark,)), lots))
