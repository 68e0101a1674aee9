"""[81]."""

import unittest

from tests.plain import ABC, ABCD, closed_by_rows, closing_by_rows, keeps, lots_within, row_lists
from thesesothose.few import direct, few_ahead, is_direct, lot_against, once, width
from thesesothose.rules import Rules

CHAIN = Rules(ABC, [(("a",), ("b",)), (("b",), ("c",))])
WIDE = Rules(ABCD, [(("a",), ("b",)), (("b", "c", "d"), ("a",))])


def more_of(marks, rows, lot):
    return tuple(mark for mark in closing_by_rows(marks, rows, lot) if mark not in lot)


def few_by_words(marks, rows, many):
    """The rows, each held against those before it."""
    found = []
    for lot in lots_within(marks):
        row = (lot, more_of(marks, rows, lot))
        if len(lot) <= many and not set(row[1]) <= set(closing_by_rows(marks, found, lot)):
            found.append(row)
    return found


def against_by_words(marks, rows, many):
    kept = closed_by_rows(marks, few_by_words(marks, rows, many))
    closed = closed_by_rows(marks, rows)
    return next((lot for lot in kept if lot not in closed), None)


def direct_by_words(marks, rows):
    found = []
    for lot in lots_within(marks):
        smaller = [other for other in lots_within(lot) if other != lot]
        behind = tuple(mark for mark in more_of(marks, rows, lot)
                       if not any(mark in closing_by_rows(marks, rows, other) for other in smaller))
        if behind:
            found.append((lot, behind))
    return found


def once_by_words(rows, lot):
    return tuple(sorted(set(lot).union(*[behind for ahead, behind in rows if set(ahead) <= set(lot)])))


class TestFewAhead(unittest.TestCase):

    def test_row_by_row(self):
        for marks, rows in row_lists():
            for many in range(len(marks) + 2):
                told = few_ahead(Rules(marks, rows), many)
                self.assertIsInstance(told, Rules)
                self.assertEqual([told.marks, told.rows()], [marks, few_by_words(marks, rows, many)])

    def test_as_many_as_there_are_marks_and_more(self):
        for marks, rows in row_lists():
            rules = Rules(marks, rows)
            every = few_ahead(rules, len(marks))
            self.assertEqual(closed_by_rows(marks, every.rows()), closed_by_rows(marks, rows))
            for many in [len(marks) + 1, 99, 10 ** 39]:
                self.assertEqual(few_ahead(rules, many), every)

    def test_some(self):
        self.assertEqual([few_ahead(CHAIN, 0).rows(), few_ahead(CHAIN, 1).rows(), few_ahead(CHAIN, 3).rows()],
                         [[], [(("a",), ("b", "c")), (("b",), ("c",))], [(("a",), ("b", "c")), (("b",), ("c",))]])
        self.assertEqual([few_ahead(WIDE, 2).rows(), few_ahead(WIDE, 3).rows()],
                         [[(("a",), ("b",))], [(("a",), ("b",)), (("b", "c", "d"), ("a",))]])
        self.assertEqual(few_ahead(Rules(ABC, [((), ("b",)), (("b",), ("c",))]), 0).rows(), [((), ("b", "c"))])
        self.assertEqual([few_ahead(Rules((), []), 0), few_ahead(Rules(ABC, []), 3)], [Rules((), []), Rules(ABC, [])])

    def test_what_follows_from_the_rows_before_is_left_out(self):
        rules = Rules(ABCD, [(("a",), ("b",)), (("c",), ("d",)), (("a", "c"), ABCD)])
        self.assertEqual(few_ahead(rules, 4).rows(), [(("a",), ("b",)), (("c",), ("d",))])


class TestLotAgainst(unittest.TestCase):

    def test_by_trying_all_lots(self):
        seen = []
        for marks, rows in row_lists():
            for many in range(len(marks) + 2):
                told = lot_against(Rules(marks, rows), many)
                self.assertEqual(told, against_by_words(marks, rows, many))
                seen.append(told is None)
        self.assertEqual(set(seen), {True, False})

    def test_some(self):
        self.assertEqual([lot_against(CHAIN, many) for many in range(4)], [("a",), None, None, None])
        self.assertEqual([lot_against(WIDE, many) for many in range(5)], [("a",), ("b", "c", "d"), ("b", "c", "d"), None, None])
        self.assertEqual(lot_against(Rules(ABC, [((), ("b",))]), 0), None)


class TestWidth(unittest.TestCase):

    def test_by_trying_all_numbers(self):
        seen = []
        for marks, rows in row_lists():
            told = width(Rules(marks, rows))
            self.assertEqual(told, [many for many in range(len(marks) + 1) if against_by_words(marks, rows, many) is None][0])
            self.assertIs(type(told), int)
            seen.append(told)
        self.assertTrue({0, 1, 2} <= set(seen))

    def test_some(self):
        for rules, told in [(CHAIN, 1), (WIDE, 3), (Rules(ABC, []), 0), (Rules((), []), 0), (Rules(ABC, [((), ABC)]), 0)]:
            self.assertEqual(width(rules), told)
        self.assertEqual(width(Rules(ABC, [(ABC, ABC)])), 0)


class TestDirect(unittest.TestCase):

    def test_against_the_words(self):
        for marks, rows in row_lists():
            told = direct(Rules(marks, rows))
            self.assertIsInstance(told, Rules)
            self.assertEqual([told.marks, told.rows()], [marks, direct_by_words(marks, rows)])

    def test_it_is_direct_and_has_the_closed_lots(self):
        for marks, rows in row_lists():
            told = direct(Rules(marks, rows))
            self.assertIs(is_direct(told), True)
            self.assertEqual(closed_by_rows(marks, told.rows()), closed_by_rows(marks, rows))

    def test_some(self):
        self.assertEqual(direct(CHAIN).rows(), [(("a",), ("b", "c")), (("b",), ("c",))])
        rules = Rules(ABCD, [(("a", "b"), ("c",)), (("c",), ("d",)), (("d",), ("b",))])
        self.assertEqual(direct(rules).rows(), [(("c",), ("b", "d")), (("d",), ("b",)), (("a", "b"), ("c", "d")),
                                                (("a", "d"), ("c",))])
        self.assertEqual(direct(Rules(ABC, [(("b",), ("c",)), ((), ("b",))])).rows(), [((), ("b", "c"))])
        self.assertEqual([direct(Rules((), [])), direct(Rules(ABC, [(("a",), ("a",))]))], [Rules((), []), Rules(ABC, [])])


class TestOnce(unittest.TestCase):

    def test_one_pass_with_the_very_lot(self):
        for marks, rows in row_lists():
            for lot in lots_within(marks):
                self.assertEqual(once(Rules(marks, rows), lot), once_by_words(rows, lot))

    def test_what_comes_leads_no_further(self):
        self.assertEqual([once(CHAIN, ("a",)), once(CHAIN, ("b",)), once(CHAIN, ("a", "b"))], [("a", "b"), ("b", "c"), ABC])
        self.assertEqual([once(Rules(ABC, [((), ("c",))]), ()), once(Rules(ABC, []), ("b",))], [("c",), ("b",)])


class TestIsDirect(unittest.TestCase):

    def test_by_trying_all_lots(self):
        seen = []
        for marks, rows in row_lists():
            told = is_direct(Rules(marks, rows))
            self.assertIs(told, all(closing_by_rows(marks, rows, lot) == once_by_words(rows, lot) for lot in lots_within(marks)))
            seen.append(told)
        self.assertEqual(set(seen), {True, False})

    def test_some(self):
        self.assertIs(is_direct(CHAIN), False)
        self.assertIs(is_direct(CHAIN + (("a",), ("c",))), True)
        self.assertIs(is_direct(Rules((), [])), True)
        rules = Rules(ABC, [(("a",), ("b",)), (("a", "b"), ("c",))])
        self.assertEqual([is_direct(rules), is_direct(rules + (("a",), ("c",)))], [False, True])


class TestAskedAgain(unittest.TestCase):

    def test_told_lists_that_are_changed(self):
        for call in [direct, lambda rules: few_ahead(rules, 2)]:
            rules = Rules(ABC, CHAIN.rows())
            told = call(rules).rows()
            call(rules).rows().clear()
            list(call(rules)).clear()
            self.assertEqual([call(rules).rows(), rules], [told, CHAIN])
            self.assertTrue(all(keeps(lot, row) for lot in closed_by_rows(ABC, CHAIN.rows()) for row in told))


if __name__ == "__main__":
    unittest.main()
