"""[32], with [3] of copying and [4] of Wrong."""

import unittest
from itertools import permutations

from tests.plain import ABC, ABCD, any_values, closing_by_table, keeps, lot_lists, lots_within, row_lists, rules_of
from thesesothose.errors import NoRow, Unlike, Wrong
from thesesothose.rules import Rules
from thesesothose.tables import Table, table_of

LOTS = [("a", "b"), ("b", "c"), ("b",), ("a", "b")]


def some():
    return Table(ABC, LOTS)


class TestMaking(unittest.TestCase):

    def wrong(self, place, marks, lots):
        with self.assertRaises(Wrong) as caught:
            Table(marks, lots)
        self.assertEqual(caught.exception.place, place)

    def test_a_list_and_a_tuple(self):
        self.assertEqual(Table(ABC, tuple(LOTS)).lots(), LOTS)
        self.assertEqual([Table(ABC, []).lots(), Table(ABC, ()).lots(), Table((), [()]).lots()], [[], [], [()]])

    def test_a_list_that_is_changed_behind(self):
        lots = list(LOTS)
        table = Table(ABC, lots)
        lots.append(())
        lots[0] = ()
        self.assertEqual([table.lots(), table(("a",)), table == some()], [LOTS, ("a", "b"), True])

    def test_marks_that_are_no_lot(self):
        for marks in [*any_values(), ["a"], [], ("b", "a"), ("a", "a"), "abc"]:
            self.wrong(0, marks, [])
            self.wrong(0, marks, None)

    def test_lots_that_are_none(self):
        for lots in [*any_values(), "", some()]:
            self.wrong(1, ABC, lots)
            self.wrong(1, ABC, [lots])
            self.wrong(1, ABC, (*LOTS, lots))
        for lots in [("a",), [("d",)], [("a", "d")], [("b", "a")], [["a"]], [[]]]:
            self.wrong(1, ABC, lots)
        self.wrong(1, (), [("a",)])


class TestReading(unittest.TestCase):

    def test_marks_lots_len_and_iterating(self):
        self.assertEqual([some().marks, some().lots(), len(some()), list(some())], [ABC, LOTS, 4, LOTS])
        self.assertEqual([len(Table(ABC, [])), list(Table(ABC, []))], [0, []])

    def test_told_lists_that_are_changed(self):
        table = some()
        table.lots().clear()
        self.assertEqual([table.lots(), list(table), len(table)], [LOTS, LOTS, 4])

    def test_marks_are_not_assigned(self):
        with self.assertRaises(AttributeError):
            some().marks = ("a",)

    def test_closing(self):
        for marks, lots in lot_lists():
            table = Table(marks, lots)
            for lot in lots_within(marks):
                told = closing_by_table(marks, lots, lot)
                self.assertEqual([table(lot), table.closing(lot)], [told, told])

    def test_closing_within_none_of_the_lots(self):
        self.assertEqual([some()(("a", "c")), Table(ABC, [])(()), Table(ABC, [()])(("a",))], [ABC, ABC, ABC])
        self.assertEqual(Table(ABC, [()])(()), ())

    def test_in(self):
        for marks, lots in lot_lists():
            for lot in lots_within(ABC):
                self.assertIs(lot in Table(marks, lots), lot in lots)

    def test_any_value_in(self):
        for thing in [*any_values(), [], ["b"], ["a", "b"], ("b", "a"), ("d",), ("a",), some(), LOTS]:
            self.assertIs(thing in some(), False)

    def test_closed_is_not_enough_for_in(self):
        self.assertIs(ABC in some(), False)

    def test_keeps(self):
        for marks, lots in lot_lists():
            for rule in rules_of(marks)[::3]:
                self.assertIs(Table(marks, lots).keeps(rule), all(keeps(lot, rule) for lot in lots))
        self.assertIs(Table(ABC, []).keeps(((), ABC)), True)


class TestOthersMade(unittest.TestCase):

    def test_plus(self):
        table = some()
        self.assertEqual([(table + ("c",)).lots(), (table + ()).lots()], [[*LOTS, ("c",)], [*LOTS, ()]])
        self.assertEqual([(table + ABC).marks, (table + ("a",))(("a",)), table.lots()], [ABC, ("a",), LOTS])

    def test_plus_what_is_no_lot(self):
        table = some()
        for lot in [*any_values(), [], ["a"], ("d",), ("a", "d"), ("b", "a"), table, LOTS]:
            with self.assertRaises(Wrong) as caught:
                table + lot
            self.assertEqual(caught.exception.place, 0)
        self.assertEqual(table.lots(), LOTS)

    def test_without(self):
        for index in range(4):
            self.assertEqual(some().without(index).lots(), LOTS[:index] + LOTS[index + 1:])
        self.assertEqual(some().without(1)(("c",)), ABC)

    def test_without_no_lot(self):
        for index in [*any_values(), 4, 5, (), [], (0,), "0", ("b",)]:
            with self.assertRaises(NoRow) as caught:
                some().without(index)
            self.assertIs(caught.exception.index, index)

    def test_or(self):
        one, other = some(), Table(ABC, [(), ("b",)])
        self.assertEqual([(one | other).lots(), (other | one).lots()], [LOTS + [(), ("b",)], [(), ("b",)] + LOTS])
        self.assertEqual([one.lots(), other.lots(), (one | other).marks], [LOTS, [(), ("b",)], ABC])

    def test_or_of_other_marks(self):
        for marks in [(), ("a", "b"), ABCD, ("a", "b", "d")]:
            for act in (lambda: some() | Table(marks, []), lambda: Table(marks, []) | some()):
                with self.assertRaises(Unlike):
                    act()

    def test_cut(self):
        cut = some().cut(("a", "c"))
        self.assertEqual([cut.marks, cut.lots()], [("a", "c"), [("a",), ("c",), (), ("a",)]])
        self.assertEqual([some().cut(()).lots(), some().cut(ABC) == some()], [[()] * 4, True])
        self.assertEqual(some().lots(), LOTS)


class TestComparing(unittest.TestCase):

    def test_equal_in_whatever_order(self):
        for lots in permutations(LOTS):
            self.assertTrue(Table(ABC, lots) == some())
            self.assertFalse(Table(ABC, lots) != some())

    def test_each_as_often(self):
        self.assertFalse(some() == Table(ABC, LOTS[:3]))
        self.assertFalse(some() == Table(ABC, [*LOTS[:3], ("b",)]))
        self.assertFalse(Table(ABC, [()]) == Table(ABC, []))

    def test_the_marks_count(self):
        self.assertFalse(some() == Table(ABCD, LOTS))

    def test_equal_to_nothing_else(self):
        for thing in [*any_values(), LOTS, (ABC, LOTS), Rules(ABC, [])]:
            self.assertIs(some() == thing, False)
            self.assertIs(some() != thing, True)
        self.assertFalse(Table(ABC, []) == Rules(ABC, []))
        self.assertFalse(Rules(ABC, []) == Table(ABC, []))
        self.assertFalse(Table(ABC, []) == [])


class TestTableOf(unittest.TestCase):

    def test_has_the_closings_of_the_theory(self):
        theories = [Rules(*pair) for pair in row_lists()] + [Table(*pair) for pair in lot_lists()]
        for theory in theories:
            table = table_of(theory)
            self.assertEqual(table.marks, theory.marks)
            for lot in lots_within(theory.marks):
                self.assertEqual(table(lot), theory(lot))

    def test_has_the_narrow_lots_in_order(self):
        self.assertEqual(table_of(some()).lots(), [("a", "b"), ("b", "c")])
        self.assertEqual(table_of(Rules(ABC, [])).lots(), [("a", "b"), ("a", "c"), ("b", "c")])
        self.assertEqual(table_of(Rules(ABC, [(("a",), ("b",))])).lots(), [("c",), ("a", "b"), ("b", "c")])
        self.assertEqual(table_of(Table(ABC, [])).lots(), [])


if __name__ == "__main__":
    unittest.main()
