"""[82]."""

import unittest

from tests.plain import ABC, closing_by_rows, keeps, least_among, lot_lists, lots_within, row_lists, rules_of
from thesesothose.exceptions import all_breakers, breakers, costs, exceptions, holding_but
from thesesothose.rules import Rules
from thesesothose.tables import Table

LOTS = [("a",), ("a", "b"), ("a",), (), ("a", "c"), ("a",)]
TABLE = Table(ABC, LOTS)


def breakers_by_words(lots, rule):
    return [index for index, lot in enumerate(lots) if not keeps(lot, rule)]


def rows_of(marks):
    """The rows of some Rules with these marks."""
    return [rows for other, rows in row_lists() if other == marks]


class TestBreakers(unittest.TestCase):

    def test_by_words(self):
        for marks, lots in lot_lists():
            for rule in rules_of(marks)[::3]:
                told = breakers_by_words(lots, rule)
                self.assertEqual(breakers(Table(marks, lots), rule), told)
                self.assertEqual(exceptions(Table(marks, lots), rule), len(told))
                self.assertIs(told == [], Table(marks, lots).keeps(rule))

    def test_lots_that_stand_several_times(self):
        self.assertEqual([breakers(TABLE, (("a",), ("b",))), exceptions(TABLE, (("a",), ("b",)))], [[0, 2, 4, 5], 4])
        self.assertEqual([breakers(TABLE, ((), ("a",))), exceptions(TABLE, ((), ("a",)))], [[3], 1])
        self.assertEqual([breakers(TABLE, (("b",), ("a",))), exceptions(TABLE, (("b",), ("a",)))], [[], 0])

    def test_no_lots(self):
        for rule in rules_of(("a", "b")):
            self.assertEqual([breakers(Table(ABC, []), rule), exceptions(Table(ABC, []), rule)], [[], 0])
            self.assertIs(type(exceptions(Table(ABC, []), rule)), int)


class TestHoldingBut(unittest.TestCase):

    def test_by_trying_all_lots_of_the_other_marks(self):
        seen = []
        for marks, lots in lot_lists():
            for mark in marks:
                others = lots_within(tuple(other for other in marks if other != mark))
                for many in range(len(lots) + 2):
                    able = [lot for lot in others if len(breakers_by_words(lots, (lot, (mark,)))) <= many]
                    told = holding_but(Table(marks, lots), mark, many)
                    self.assertEqual(told, least_among(able))
                    seen.append(len(told))
        self.assertTrue({0, 1, 2} <= set(seen))

    def test_some(self):
        self.assertEqual([holding_but(TABLE, "b", many) for many in range(6)],
                         [[], [("c",)], [("c",)], [("c",)], [("a",), ("c",)], [()]])

    def test_beyond_the_number_of_lots(self):
        for many in [6, 7, 10 ** 39]:
            self.assertEqual(holding_but(TABLE, "b", many), [()])
        self.assertEqual([holding_but(Table(ABC, []), "a", 0), holding_but(Table(("a",), [()]), "a", 0)], [[()], []])
        self.assertEqual(holding_but(Table(("a",), [()]), "a", 1), [()])

    def test_the_mark_itself_does_not_stand_ahead(self):
        for many in range(6):
            for mark in ABC:
                self.assertFalse([lot for lot in holding_but(TABLE, mark, many) if mark in lot])


class TestOfRules(unittest.TestCase):

    def test_by_words(self):
        for marks, lots in lot_lists():
            for rows in rows_of(marks):
                told = [breakers_by_words(lots, row) for row in rows]
                self.assertEqual(costs(Table(marks, lots), Rules(marks, rows)), [len(indexes) for indexes in told])
                self.assertEqual(all_breakers(Table(marks, lots), Rules(marks, rows)),
                                 sorted({index for indexes in told for index in indexes}))

    def test_rows_that_stand_twice(self):
        row, other = (("a",), ("b",)), ((), ("a",))
        self.assertEqual(costs(TABLE, Rules(ABC, [row, other, row])), [4, 1, 4])
        self.assertEqual(all_breakers(TABLE, Rules(ABC, [row, other, row])), [0, 2, 3, 4, 5])

    def test_none(self):
        self.assertEqual([costs(TABLE, Rules(ABC, [])), all_breakers(TABLE, Rules(ABC, []))], [[], []])
        rules = Rules(ABC, [(("a",), ("b",))] * 2)
        self.assertEqual([costs(Table(ABC, []), rules), all_breakers(Table(ABC, []), rules)], [[0, 0], []])

    def test_what_follows_has_at_most_as_many_exceptions(self):
        for marks, lots in lot_lists():
            if len(marks) > 3:
                continue
            for rows in rows_of(marks):
                most = sum(costs(Table(marks, lots), Rules(marks, rows)))
                for rule in rules_of(marks):
                    if set(rule[1]) <= set(closing_by_rows(marks, rows, rule[0])):
                        self.assertLessEqual(exceptions(Table(marks, lots), rule), most)


class TestAskedAgain(unittest.TestCase):

    def test_what_is_returned_may_be_changed(self):
        rules = Rules(ABC, [(("a",), ("b",))])
        for call in [lambda table: breakers(table, rules[0]), lambda table: holding_but(table, "b", 1),
                     lambda table: costs(table, rules), lambda table: all_breakers(table, rules)]:
            table = Table(ABC, LOTS)
            told = call(table)
            call(table).clear()
            self.assertEqual([call(table), table.lots(), len(rules), told != []], [told, LOTS, 1, True])


if __name__ == "__main__":
    unittest.main()
