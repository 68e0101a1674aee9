"""Whether two Rules are alike, and what parts them if they are not."""

from thesesothose.closed import closed_lots
from thesesothose.errors import Unlike
from thesesothose.lots import all_lots


def alike(one, other):
    """Whether two Rules have the same marks and the same closed lots."""
    return one.marks == other.marks and closed_lots(one) == closed_lots(other)


def must_have_one_lot_of_marks(one, other):
    """Raises Unlike if two Rules, or Tables, have not the same marks."""
    if one.marks != other.marks:
        raise Unlike()


def parting_lot(one, other):
    """The first lot that is closed in just one of two Rules, or None."""
    must_have_one_lot_of_marks(one, other)
    for lot in all_lots(one.marks):
        if (lot in one) != (lot in other):
            return lot
    return None


def parting_rule(one, other):
    """The first rule with one mark behind that follows from just one of two Rules, or None."""
    must_have_one_lot_of_marks(one, other)
    for lot in all_lots(one.marks):
        here, there = one.closing(lot), other.closing(lot)
        for mark in one.marks:
            if (mark in here) != (mark in there):
                return (lot, (mark,))
    return None


def gained_by(one, other):
    """The list, in order, of the lots that are closed in one of two Rules, but not in the other one."""
    must_have_one_lot_of_marks(one, other)
    return [lot for lot in closed_lots(one) if lot not in other]
