"""The closed lots of a theory, which is a Rules or a Table."""

from thesesothose.errors import NoLot, NoNumber
from thesesothose.lots import all_lots, joined, least_of, without
from thesesothose.words import is_index, is_lot_of


def is_closed(theory, thing):
    """Whether a thing, any value, is a closed lot of a theory."""
    return is_lot_of(theory.marks, thing) and theory.closing(thing) == thing


def closed_lots(theory):
    """The list of all closed lots, in order."""
    return [lot for lot in all_lots(theory.marks) if theory.closing(lot) == lot]


def count(theory):
    """The number of the closed lots."""
    return len(closed_lots(theory))


def number_of(theory, lot):
    """The index of a closed lot in the list of all."""
    if not is_closed(theory, lot):
        raise NoLot(lot)
    return closed_lots(theory).index(lot)


def lot_at(theory, number):
    """The closed lot that has an index in the list of all."""
    lots = closed_lots(theory)
    if not is_index(len(lots), number):
        raise NoNumber(number)
    return lots[number]


def next_ones(theory, lot):
    """The list, in order, of the least closed lots that a closed lot is strictly within."""
    if not is_closed(theory, lot):
        raise NoLot(lot)
    return _least_above(theory, lot)


def _least_above(theory, lot):
    # A closed lot that holds more than this one holds the closing of it with one mark more.
    return least_of([theory.closing(joined(lot, (mark,))) for mark in without(theory.marks, lot)])


def narrow(theory):
    """The list of the tuples of a closed lot with just one next one, and this, in order."""
    pairs = []
    for lot in closed_lots(theory):
        above = _least_above(theory, lot)
        if len(above) == 1:
            pairs.append((lot, above[0]))
    return pairs
