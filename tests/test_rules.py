"""[22], with [2] of Rules, [3] of copying and [4] of Wrong."""

import unittest

from tests.plain import ABC, ABCD, any_values, closing_by_rows, keeps, lots_within, row_lists, rules_of
from thesesothose.errors import NoRow, Wrong
from thesesothose.rules import Rules, breaks

ROWS = [(("a",), ("b",)), (("b", "c"), ("a",))]


def chain():
    return Rules(ABC, ROWS)


class TestBreaks(unittest.TestCase):

    def test_every_rule_and_lot_of_three_marks(self):
        for rule in rules_of(ABC):
            for lot in lots_within(ABC):
                self.assertIs(breaks(lot, rule), not keeps(lot, rule))


class TestMaking(unittest.TestCase):

    def wrong(self, place, marks, rows):
        with self.assertRaises(Wrong) as caught:
            Rules(marks, rows)
        self.assertEqual(caught.exception.place, place)
        self.assertIs(type(caught.exception.place), int)

    def test_rows_as_a_list_and_as_a_tuple(self):
        self.assertEqual(Rules(ABC, ROWS), Rules(ABC, tuple(ROWS)))
        self.assertEqual(Rules(ABC, tuple(ROWS)).rows(), ROWS)

    def test_rows_twice_no_rows_no_marks(self):
        self.assertEqual(Rules(ABC, ROWS * 2).rows(), ROWS * 2)
        self.assertEqual(Rules(ABC, []).rows(), [])
        self.assertEqual(Rules((), []).marks, ())
        self.assertEqual(Rules((), ())(()), ())
        self.assertEqual(Rules((), [((), ())]).rows(), [((), ())])

    def test_a_list_that_is_changed_behind(self):
        rows = list(ROWS)
        rules = Rules(ABC, rows)
        rows.append((("c",), ("a",)))
        rows[0] = ((), ABC)
        self.assertEqual(rules.rows(), ROWS)
        self.assertEqual(rules(("a",)), ("a", "b"))

    def test_marks_that_are_no_lot(self):
        for marks in any_values():
            self.wrong(0, marks, [])
            self.wrong(0, marks, None)
        for marks in [["a"], [], ("b", "a"), ("a", "a"), "abc", ("A",), ("abcdefghi",)]:
            self.wrong(0, marks, [])

    def test_rows_that_are_none(self):
        for rows in any_values():
            self.wrong(1, ABC, rows)
            self.wrong(1, ABC, [rows])
            self.wrong(1, ABC, (*ROWS, rows))
            self.wrong(1, ABC, [(("a",), rows)])
            self.wrong(1, ABC, [(rows, ("a",))])
        self.wrong(1, ABC, chain())
        self.wrong(1, ABC, ROWS[0])

    def test_rows_of_other_marks(self):
        self.wrong(1, ABC, [(("a",), ("d",))])
        self.wrong(1, ABC, [(("d",), ("a",))])
        self.wrong(1, ABC, [*ROWS, ((), ("a", "d"))])
        self.wrong(1, (), [((), ("a",))])


class TestReading(unittest.TestCase):

    def test_marks_rows_len_and_iterating(self):
        rules = chain()
        self.assertEqual([rules.marks, rules.rows(), len(rules), list(rules)], [ABC, ROWS, 2, ROWS])
        self.assertEqual([[], 0, []], [Rules(ABC, []).rows(), len(Rules(ABC, [])), list(Rules(ABC, []))])

    def test_told_lists_that_are_changed(self):
        rules = chain()
        rules.rows().clear()
        list(rules).reverse()
        self.assertEqual(rules.rows(), ROWS)
        self.assertEqual(list(rules), ROWS)
        self.assertEqual(len(rules), 2)

    def test_marks_are_not_assigned(self):
        with self.assertRaises(AttributeError):
            chain().marks = ("a",)

    def test_items(self):
        self.assertEqual([chain()[0], chain()[1]], ROWS)

    def test_no_such_item(self):
        for index in [*any_values(), 2, 3, (), [], (0,), [0], "0"]:
            with self.assertRaises(NoRow) as caught:
                chain()[index]
            self.assertIs(caught.exception.index, index)
        with self.assertRaises(NoRow):
            chain()[0:1]
        with self.assertRaises(NoRow):
            Rules(ABC, [])[0]

    def test_closing(self):
        for marks, rows in row_lists():
            rules = Rules(marks, rows)
            for lot in lots_within(marks):
                told = closing_by_rows(marks, rows, lot)
                self.assertEqual([rules(lot), rules.closing(lot)], [told, told])

    def test_a_long_chain_told_backwards(self):
        marks = tuple("abcdefghij")
        rows = [((marks[k],), (marks[k + 1],)) for k in range(8, -1, -1)]
        self.assertEqual(Rules(marks, rows)(("a",)), marks)
        self.assertEqual(Rules(marks, rows)(("c", "i")), marks[2:])
        self.assertEqual(Rules(marks, rows)(()), ())

    def test_in(self):
        for marks, rows in row_lists():
            rules = Rules(marks, rows)
            for lot in lots_within(("a", "ab", "b", "c")):
                told = set(lot) <= set(marks) and all(keeps(lot, row) for row in rows)
                self.assertIs(lot in rules, told)

    def test_any_value_in(self):
        for thing in [*any_values(), [], ["b"], ("c", "b"), ("d",), ROWS[0], chain()]:
            self.assertIs(thing in chain(), False)
        self.assertIs(() in chain(), True)


class TestOthersMade(unittest.TestCase):

    def wrong(self, act):
        with self.assertRaises(Wrong) as caught:
            act()
        self.assertEqual(caught.exception.place, 0)

    def test_plus(self):
        rules = chain()
        more = rules + (("c",), ("c",))
        self.assertEqual(more.rows(), [*ROWS, (("c",), ("c",))])
        self.assertEqual((rules + ROWS[0]).rows(), [*ROWS, ROWS[0]])
        self.assertEqual([rules.rows(), more.marks], [ROWS, ABC])
        self.assertEqual((more + ((), ("a",)))(()), ("a", "b"))

    def test_plus_what_is_no_rule(self):
        rules = chain()
        for rule in [*any_values(), [], (), chain(), ROWS, (("a",), ("d",)), (("d",), ()), (["a"], ["b"])]:
            self.wrong(lambda: rules + rule)
        self.assertEqual(rules, chain())

    def test_with_rows(self):
        more = [(("c",), ("a",)), ((), ())]
        self.assertEqual(chain().with_rows(more).rows(), ROWS + more)
        self.assertEqual(chain().with_rows(tuple(more)).rows(), ROWS + more)
        self.assertEqual(chain().with_rows([]), chain())
        self.assertEqual(chain().with_rows(()), chain())
        rules = chain()
        rules.with_rows(more)
        self.assertEqual(rules.rows(), ROWS)

    def test_with_rows_copies(self):
        more = [(("c",), ("a",))]
        rules = chain().with_rows(more)
        more.clear()
        self.assertEqual(len(rules), 3)

    def test_with_rows_that_are_none(self):
        rules = chain()
        for rows in [*any_values(), chain(), [(("a",), ("d",))], [*ROWS, ROWS]]:
            self.wrong(lambda: rules.with_rows(rows))
            self.wrong(lambda: rules.with_rows([rows]))
        self.wrong(lambda: rules.with_rows(ROWS[0]))
        self.assertEqual(rules, chain())

    def test_without(self):
        rules = chain()
        self.assertEqual([rules.without(0).rows(), rules.without(1).rows()], [ROWS[1:], ROWS[:1]])
        self.assertEqual([rules.rows(), rules.without(0).marks], [ROWS, ABC])
        self.assertEqual(Rules(ABC, [ROWS[0], ROWS[1], ROWS[0]]).without(2).rows(), ROWS)
        three = [*ROWS, ((), ("c",))]
        self.assertEqual([Rules(ABC, three).without(index).rows() for index in range(3)], [three[1:], three[::2], three[:2]])
        self.assertEqual(rules.without(0)(("a",)), ("a",))

    def test_without_no_row(self):
        for index in [*any_values(), 2, 3, (), [], (0,), "0"]:
            with self.assertRaises(NoRow) as caught:
                chain().without(index)
            self.assertIs(caught.exception.index, index)

    def test_or(self):
        one, other = Rules(("a", "c"), [(("a",), ("c",))]), Rules(("a", "b"), [(("b",), ("a",)), (("a",), ())])
        self.assertEqual((one | other).marks, ABC)
        self.assertEqual((one | other).rows(), one.rows() + other.rows())
        self.assertEqual((other | one).rows(), other.rows() + one.rows())
        self.assertEqual((one | other)(("b",)), ABC)
        self.assertEqual(one | Rules((), []), one)
        self.assertEqual([len(one), len(other), one.marks], [1, 2, ("a", "c")])


class TestComparing(unittest.TestCase):

    def test_follows_from(self):
        for marks, rows in row_lists():
            if len(marks) > 3:
                continue
            for _, other_rows in [pair for pair in row_lists() if set(pair[0]) <= set(ABC)]:
                one, other = Rules(marks, rows), Rules(ABC, other_rows)
                told = all(set(behind) <= set(closing_by_rows(ABC, other_rows, ahead)) for ahead, behind in rows)
                self.assertIs(one.follows_from(other), told)

    def test_follows_from_hangs_on_the_marks(self):
        self.assertIs(Rules(ABCD, []).follows_from(Rules(ABC, ROWS)), False)
        self.assertIs(Rules(ABC, []).follows_from(Rules(ABCD, [])), True)
        self.assertIs(Rules(ABCD, [(("d",), ())]).follows_from(chain()), False)
        self.assertIs(Rules((), []).follows_from(Rules((), [])), True)

    def test_equal(self):
        self.assertTrue(chain() == chain())
        self.assertFalse(chain() != chain())
        self.assertFalse(chain() == Rules(ABC, ROWS[::-1]))
        self.assertFalse(chain() == Rules(ABCD, ROWS))
        self.assertFalse(chain() == Rules(ABC, ROWS + ROWS[:1]))
        self.assertFalse(Rules(ABC, []) == Rules(ABC, [((), ())]))

    def test_equal_to_nothing_else(self):
        for thing in [*any_values(), ROWS, (ABC, ROWS), [ABC, ROWS]]:
            self.assertIs(chain() == thing, False)
            self.assertIs(chain() != thing, True)
        self.assertFalse(Rules(ABC, []) == [])


if __name__ == "__main__":
    unittest.main()
