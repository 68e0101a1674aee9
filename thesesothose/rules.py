"""Rules: lots of marks, and rows that tell who has these has those, too."""

from thesesothose.errors import NoRow, Wrong
from thesesothose.lots import joined, within
from thesesothose.masks import closed_by_rows, lot_from, mask_of
from thesesothose.words import is_index, is_lot, is_rule_of


def breaks(lot, rule):
    """Whether a lot has all that stands ahead in a rule, but not all behind."""
    ahead, behind = rule
    return within(ahead, lot) and not within(behind, lot)


def are_rules_of(marks, rows):
    """Whether rows, any value, is a list or a tuple of rules of the marks."""
    if not isinstance(rows, (list, tuple)):
        return False
    return all([is_rule_of(marks, row) for row in rows])


class Rules:
    """Marks, and a list of rules of these marks."""

    def __init__(self, marks, rows):
        if not is_lot(marks):
            raise Wrong(0)
        if not are_rules_of(marks, rows):
            raise Wrong(1)
        self._marks = marks
        self._rows = list(rows)
        self._pairs = [(mask_of(marks, ahead), mask_of(marks, behind)) for ahead, behind in rows]

    @property
    def marks(self):
        return self._marks

    def rows(self):
        """The list of the rows."""
        return list(self._rows)

    def closing(self, lot):
        """The closing of a lot of the marks."""
        reached = closed_by_rows(self._pairs, mask_of(self._marks, lot))
        return lot_from(self._marks, reached)

    def follows_from(self, other):
        """Whether the marks stand in those of another Rules, and each row follows from it."""
        if not within(self._marks, other.marks):
            return False
        return all([within(behind, other.closing(ahead)) for ahead, behind in self._rows])

    def with_rows(self, rows):
        """The Rules with further rows behind the others."""
        if not are_rules_of(self._marks, rows):
            raise Wrong(0)
        return Rules(self._marks, [*self._rows, *rows])

    def without(self, index):
        """The Rules without the row that has an index."""
        if not is_index(len(self._rows), index):
            raise NoRow(index)
        return Rules(self._marks, self._rows[:index] + self._rows[index + 1:])

    def __eq__(self, other):
        return isinstance(other, Rules) and self._marks == other._marks and self._rows == other._rows

    def __len__(self):
        return len(self._rows)

    def __iter__(self):
        return iter(self._rows)

    def __contains__(self, x):
        return is_lot(x) and within(x, self._marks) and self.closing(x) == x

    def __getitem__(self, at):
        if not is_index(len(self._rows), at):
            raise NoRow(at)
        return self._rows[at]

    def __call__(self, lot):
        return self.closing(lot)

    def __add__(self, other):
        return self.with_rows([other])

    def __or__(self, other):
        return Rules(joined(self._marks, other._marks), [*self._rows, *other._rows])
