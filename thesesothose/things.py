"""Things told in part: tuples (has, lacks) of two lots without a common mark."""

from thesesothose.lots import all_lots, common, in_order, joined, within, without


def untold(marks, thing):
    """The lot of the marks that a thing neither surely has nor surely lacks."""
    return without(marks, joined(thing[0], thing[1]))


def is_full(marks, thing):
    """Whether of each of the marks is told whether a thing has it."""
    return untold(marks, thing) == ()


def fits(lot, thing):
    """Whether a lot has what a thing has, and nothing that it lacks."""
    has, lacks = thing
    return within(has, lot) and common(lot, lacks) == ()


def full_thing(marks, lot):
    """The thing that has a lot within the marks, and lacks the others of them."""
    return (lot, without(marks, lot))


def told_more(thing, more):
    """The thing of which all is told that is told of one of the two, or None if that does not go together."""
    has = joined(thing[0], more[0])
    lacks = joined(thing[1], more[1])
    if common(has, lacks) != ():
        return None
    return (has, lacks)


def fillings(marks, thing):
    """The list of the lots within the marks that fit a thing, in order."""
    return in_order([joined(thing[0], lot) for lot in all_lots(untold(marks, thing))])
