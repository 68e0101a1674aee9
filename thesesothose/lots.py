"""Lots: tuples of different marks in ascending order."""


def lot_of(marks):
    """The lot of a list of marks, each perhaps several times."""
    return tuple(sorted(set(marks)))


def place_of(lot):
    """What lots are put in order by."""
    return (len(lot), lot)


def in_order(lots):
    """The list of the lots in order, each as often as it stands in the list."""
    return sorted(lots, key=place_of)


def all_lots(marks):
    """The list of all lots within a lot of marks, in order."""
    lots = [()]
    for mark in marks:
        lots = lots + [lot + (mark,) for lot in lots]
    return in_order(lots)


def comes_before(one, other):
    """Whether a lot comes before another one in order."""
    return place_of(one) < place_of(other)


def within(one, other):
    """Whether each mark of a lot stands in another one."""
    for mark in one:
        if mark not in other:
            return False
    return True


def joined(one, other):
    """The lot of the marks that stand in one of the two or in both."""
    return lot_of([*one, *other])


def common(one, other):
    """The lot of the marks that stand in both."""
    return tuple([mark for mark in one if mark in other])


def without(one, other):
    """The lot of the marks that stand in the first one alone."""
    return tuple([mark for mark in one if mark not in other])


def least_of(lots):
    """The list, in order, of the different lots of a list that no other one of it is strictly within."""
    least = []
    for lot in in_order(lots):
        if not any([within(other, lot) for other in least]):
            least.append(lot)
    return least
