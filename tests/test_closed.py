"""[30], [31], of Rules and of Tables alike."""

import unittest

from tests.plain import ABC, ABCD, TEN, any_values, closing_by, lot_lists, lots_within, row_lists
from thesesothose.closed import closed_lots, count, is_closed, lot_at, narrow, next_ones, number_of
from thesesothose.errors import NoLot, NoNumber
from thesesothose.rules import Rules
from thesesothose.tables import Table


def theories():
    return [Rules(marks, rows) for marks, rows in row_lists()] + [Table(marks, lots) for marks, lots in lot_lists()]


def closed_of(theory):
    return [lot for lot in lots_within(theory.marks) if closing_by(theory, lot) == lot]


def next_of(lots, lot):
    above = [other for other in lots if set(lot) < set(other)]
    return [one for one in above if not any(set(other) < set(one) for other in above)]


class TestClosed(unittest.TestCase):

    def test_all_in_order(self):
        for theory in theories():
            lots = closed_of(theory)
            self.assertEqual([closed_lots(theory), count(theory)], [lots, len(lots)])
            for lot in lots_within(theory.marks):
                self.assertIs(is_closed(theory, lot), lot in lots)

    def test_no_marks_and_no_lots(self):
        for theory in [Rules((), []), Table((), []), Table((), [()])]:
            self.assertEqual([closed_lots(theory), count(theory)], [[()], 1])
            self.assertEqual([next_ones(theory, ()), narrow(theory)], [[], []])
        self.assertEqual(closed_lots(Table(ABC, [])), [ABC])
        self.assertEqual([next_ones(Table(ABC, []), ABC), narrow(Table(ABC, []))], [[], []])

    def test_any_value_is_closed_or_not(self):
        for theory in [Rules(ABC, [(("a",), ("b",))]), Table(ABC, [("b",), ("a", "b")]), Rules((), []), Table(ABC, [])]:
            for thing in [*any_values(), [], ["b"], ("d",), ("b", "d"), ("c", "b"), theory]:
                self.assertIs(is_closed(theory, thing), False)

    def test_ten_marks(self):
        self.assertEqual(count(Rules(TEN, [])), 1024)
        self.assertEqual(count(Table(TEN, [TEN[:k] + TEN[k + 1:] for k in range(10)])), 1024)
        self.assertEqual(count(Table(TEN, [TEN[:k] for k in range(10)])), 11)


class TestNumbers(unittest.TestCase):

    def test_there_and_back(self):
        for theory in theories():
            for number, lot in enumerate(closed_of(theory)):
                self.assertEqual([number_of(theory, lot), lot_at(theory, number)], [number, lot])

    def test_no_lot(self):
        theories_of_abc = [Rules(ABC, [(("a",), ("b",))]), Table(ABC, [("b",), ("a", "b"), ("c",)])]
        for theory in theories_of_abc:
            for lot in [*any_values(), ("a",), ["b"], [], ("d",), ("b", "d"), ("c", "b")]:
                for call in (number_of, next_ones):
                    with self.assertRaises(NoLot) as caught:
                        call(theory, lot)
                    self.assertIs(caught.exception.lot, lot)

    def test_no_number(self):
        for theory in [Rules(("a",), []), Table(("a",), [()])]:
            for number in [*any_values(), 2, 3, (), [], [0], (0,), "0"]:
                with self.assertRaises(NoNumber) as caught:
                    lot_at(theory, number)
                self.assertIs(caught.exception.number, number)
            self.assertEqual([lot_at(theory, 0), lot_at(theory, 1)], [(), ("a",)])


class TestNextOnes(unittest.TestCase):

    def test_by_trying_all_closed_lots(self):
        for theory in theories():
            lots = closed_of(theory)
            pairs = [(lot, next_of(lots, lot)) for lot in lots]
            for lot, above in pairs:
                self.assertEqual(next_ones(theory, lot), above)
            self.assertEqual(narrow(theory), [(lot, above[0]) for lot, above in pairs if len(above) == 1])

    def test_in_order(self):
        rules = Rules(ABCD, [(("a",), ("c", "d")), (("d",), ("c",))])
        self.assertEqual(next_ones(rules, ()), [("b",), ("c",)])
        self.assertEqual(next_ones(rules, ("c",)), [("b", "c"), ("c", "d")])
        self.assertEqual(next_ones(Rules(ABC, [(("a",), ("b", "c"))]), ()), [("b",), ("c",)])
        self.assertEqual(next_ones(rules, ABCD), [])

    def test_what_is_returned_may_be_changed(self):
        rules = Rules(ABC, [(("a",), ("b",))])
        for call in (closed_lots, narrow, lambda theory: next_ones(theory, ())):
            told = call(rules)
            call(rules).clear()
            self.assertEqual(call(rules), told)


if __name__ == "__main__":
    unittest.main()
