"""Tables: lots of marks, and what each thing has of them."""

from thesesothose.closed import narrow
from thesesothose.errors import NoRow, Unlike, Wrong
from thesesothose.lots import common
from thesesothose.masks import closed_by_lots, lot_from, mask_of
from thesesothose.rules import breaks
from thesesothose.words import is_index, is_lot, is_lot_of


def are_lots_of(marks, lots):
    """Whether lots, any value, is a list or a tuple of lots within the marks."""
    if not isinstance(lots, (list, tuple)):
        return False
    return all([is_lot_of(marks, lot) for lot in lots])


class Table:
    """Marks, and a list of lots of these marks."""

    def __init__(self, marks, lots):
        if not is_lot(marks):
            raise Wrong(0)
        if not are_lots_of(marks, lots):
            raise Wrong(1)
        self._marks = marks
        self._lots = list(lots)
        # Tables with the same lots are equal in whatever order these stand.
        self._sorted = sorted(self._lots)
        self._masks = [mask_of(marks, lot) for lot in lots]

    @property
    def marks(self):
        return self._marks

    def lots(self):
        """The list of the lots."""
        return list(self._lots)

    def closing(self, lot):
        """The lot of the marks that stand in each lot of the Table which a lot of the marks is within."""
        everything = mask_of(self._marks, self._marks)
        reached = closed_by_lots(self._masks, everything, mask_of(self._marks, lot))
        return lot_from(self._marks, reached)

    def keeps(self, rule):
        """Whether a rule of the marks holds in the Table."""
        return not any([breaks(lot, rule) for lot in self._lots])

    def without(self, index):
        """The Table without the lot that has an index."""
        if not is_index(len(self._lots), index):
            raise NoRow(index)
        return Table(self._marks, self._lots[:index] + self._lots[index + 1:])

    def cut(self, marks):
        """The Table of what each lot has of some of the marks."""
        return Table(marks, [common(lot, marks) for lot in self._lots])

    def __eq__(self, other):
        return isinstance(other, Table) and self._marks == other._marks and self._sorted == other._sorted

    def __len__(self):
        return len(self._lots)

    def __iter__(self):
        return iter(self._lots)

    def __contains__(self, x):
        return is_lot(x) and x in self._lots

    def __call__(self, lot):
        return self.closing(lot)

    def __add__(self, other):
        if not is_lot_of(self._marks, other):
            raise Wrong(0)
        return Table(self._marks, [*self._lots, other])

    def __or__(self, other):
        if self._marks != other._marks:
            raise Unlike()
        return Table(self._marks, [*self._lots, *other._lots])


def table_of(theory):
    """The Table of the narrow lots of a theory, in order, whose closings are those of the theory."""
    return Table(theory.marks, [lot for lot, _ in narrow(theory)])
