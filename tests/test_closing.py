"""[25]."""

import unittest

from tests.plain import ABC, ABCD, closing_by_rows, keeps, lots_within, row_lists, rules_of
from thesesothose.closing import broken, closing, follows, gained
from thesesothose.rules import Rules


def gained_by_passes(rows, lot):
    """The words of [25] step by step: pass behind pass, from row 0."""
    reached, steps = set(lot), []
    while any(set(ahead) <= reached and not set(behind) <= reached for ahead, behind in rows):
        for index in range(len(rows)):
            ahead, behind = rows[index]
            if set(ahead) <= reached and not set(behind) <= reached:
                reached = reached | set(behind)
                steps.append((index, tuple(sorted(reached))))
    return steps


class TestClosing(unittest.TestCase):

    def test_closing(self):
        for marks, rows in row_lists():
            for lot in lots_within(marks):
                self.assertEqual(closing(Rules(marks, rows), lot), closing_by_rows(marks, rows, lot))

    def test_gained(self):
        for marks, rows in row_lists():
            for lot in lots_within(marks):
                self.assertEqual(gained(Rules(marks, rows), lot), gained_by_passes(rows, lot))

    def test_gained_goes_on_from_row_to_row(self):
        rules = Rules(ABCD, [(("c",), ("d",)), (("a",), ("b",)), (("b",), ("c",))])
        self.assertEqual(gained(rules, ("a",)), [(1, ("a", "b")), (2, ABC), (0, ABCD)])

    def test_gained_begins_anew_only_behind_the_last_row(self):
        rules = Rules(ABCD, [(("b",), ("c",)), (("a",), ("b",)), (("a",), ("d",))])
        self.assertEqual(gained(rules, ("a",)), [(1, ("a", "b")), (2, ("a", "b", "d")), (0, ABCD)])

    def test_gained_joins_the_whole_behind_and_keeps_what_there_was(self):
        rules = Rules(ABCD, [(("b",), ("a", "b", "c")), (("b",), ("c",)), ((), ())])
        self.assertEqual(gained(rules, ("b", "d")), [(0, ABCD)])

    def test_gained_nothing(self):
        self.assertEqual(gained(Rules(ABC, [(("a",), ("b",))]), ("b",)), [])
        self.assertEqual(gained(Rules(ABC, []), ABC), [])
        self.assertEqual(gained(Rules((), []), ()), [])

    def test_gained_may_be_changed(self):
        rules = Rules(ABC, [(("a",), ("b",))])
        gained(rules, ("a",)).clear()
        broken(rules, ("a",)).clear()
        self.assertEqual([gained(rules, ("a",)), broken(rules, ("a",))], [[(0, ("a", "b"))], [0]])

    def test_broken(self):
        for marks, rows in row_lists():
            for lot in lots_within(marks):
                told = [index for index in range(len(rows)) if not keeps(lot, rows[index])]
                self.assertEqual(broken(Rules(marks, rows), lot), told)

    def test_a_row_twice_is_broken_twice(self):
        self.assertEqual(broken(Rules(ABC, [((), ("a",)), ((), ()), ((), ("a",))]), ("b",)), [0, 2])

    def test_follows(self):
        for marks, rows in row_lists():
            if len(marks) < 4:
                for ahead, behind in rules_of(marks):
                    told = set(behind) <= set(closing_by_rows(marks, rows, ahead))
                    self.assertIs(follows(Rules(marks, rows), (ahead, behind)), told)


if __name__ == "__main__":
    unittest.main()
