"""Left sides of the needy lots, the list with the fewest marks ahead, and lists picked out of others."""

from thesesothose.errors import NoLot
from thesesothose.leastlist import needy_lots
from thesesothose.lots import all_lots, least_of, within, without
from thesesothose.rules import Rules, breaks


def least_left_sides(theory, lot):
    """The list, in order, of the least lots within a needy lot whose closing leads out of it."""
    return least_of([side for side in all_lots(lot) if not within(theory.closing(side), lot)])


def first_left_sides(theory, known):
    """The list of the first left side of each needy lot, in the order of these."""
    return [least_left_sides(theory, lot)[0] for lot in needy_lots(theory, known=known)]


def led_by(theory, aheads):
    """The Rules of the rows from each lot of a list to what its closing by the theory has more."""
    return Rules(theory.marks, [(ahead, without(theory.closing(ahead), ahead)) for ahead in aheads])


def left_sides(theory, lot, *, known=None):
    """The list of the least left sides of a needy lot, in order."""
    if lot not in needy_lots(theory, known=known):
        raise NoLot(lot)
    return least_left_sides(theory, lot)


def fewest_ahead(theory, *, known=None):
    """The number of all marks ahead in a list that gives the theory with as few of them as can be."""
    return sum([len(side) for side in first_left_sides(theory, known)])


def lean_list(theory, *, known=None):
    """The Rules with one row for each needy lot, in the order of these, and the fewest marks ahead."""
    return led_by(theory, first_left_sides(theory, known))


def brought(theory, other, *, known=None):
    """The Rules with one row for each needy lot, in order, led by the first row of other that it breaks."""
    aheads = []
    for lot in needy_lots(theory, known=known):
        rows = [row for row in other if breaks(lot, row)]
        if not rows:
            raise NoLot(lot)
        aheads.append(rows[0][0])
    return led_by(theory, aheads)
