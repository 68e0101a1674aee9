"""[80]."""

import unittest
from itertools import combinations

from tests.plain import ABC, ABCD, TEN, closing_by_rows, least_among, lots_within, row_lists
from thesesothose.keys import generators, givers, independent_lots, is_independent, keys
from thesesothose.rules import Rules

CHAIN = Rules(ABC, [(("a",), ("b",)), (("b",), ("c",))])
AHEAD_OF_ALL = Rules(ABC, [((), ("b",)), (("a", "b"), ("c",))])
NO_MARKS = Rules((), [])


def closings(marks, rows):
    return {lot: closing_by_rows(marks, rows, lot) for lot in lots_within(marks)}


def independent_by_words(marks, rows, lot):
    return not any(mark in closing_by_rows(marks, rows, tuple(other for other in lot if other != mark)) for mark in lot)


class TestKeys(unittest.TestCase):

    def test_by_trying_all_lots(self):
        seen = []
        for marks, rows in row_lists():
            told = keys(Rules(marks, rows))
            self.assertEqual(told, least_among([lot for lot, reached in closings(marks, rows).items() if reached == marks]))
            seen.append(len(told))
        self.assertTrue({1, 2} <= set(seen))

    def test_some(self):
        self.assertEqual([keys(CHAIN), keys(AHEAD_OF_ALL), keys(Rules(ABC, []))], [[("a",)], [("a",)], [ABC]])
        self.assertEqual([keys(NO_MARKS), keys(Rules((), [((), ())])), keys(Rules(ABC, [((), ABC)]))], [[()]] * 3)
        turns = Rules(ABC, [(("a",), ("b",)), (("b",), ("c",)), (("c",), ("a",))])
        self.assertEqual(keys(turns), [("a",), ("b",), ("c",)])

    def test_in_order(self):
        rules = Rules(ABCD, [(("a", "b"), ABCD), (("d",), ABCD), (("a", "c"), ABCD), (("b", "c"), ABCD)])
        self.assertEqual(keys(rules), [("d",), ("a", "b"), ("a", "c"), ("b", "c")])

    def test_of_ten_marks(self):
        rules = Rules(TEN, [(lot, TEN) for lot in list(combinations(TEN, 3))[:30]])
        told = keys(rules)
        self.assertEqual(told[:30], list(combinations(TEN, 3))[:30])
        closed = [lot for lot in lots_within(TEN) if len(lot) > 2 and any(set(ahead) <= set(lot) for ahead, _ in rules)]
        self.assertEqual(told, least_among([*closed, TEN]))


class TestGivers(unittest.TestCase):

    def test_by_trying_all_lots(self):
        for marks, rows in row_lists():
            for mark in marks:
                told = givers(Rules(marks, rows), mark)
                self.assertEqual(told, least_among([lot for lot, reached in closings(marks, rows).items() if mark in reached]))
                self.assertIs((mark,) in told, () not in told)
                self.assertIs(() in told, mark in closing_by_rows(marks, rows, ()))

    def test_some(self):
        self.assertEqual([givers(CHAIN, mark) for mark in ABC], [[("a",)], [("a",), ("b",)], [("a",), ("b",), ("c",)]])
        self.assertEqual([givers(AHEAD_OF_ALL, mark) for mark in ABC], [[("a",)], [()], [("a",), ("c",)]])
        self.assertEqual(givers(Rules(ABC, []), "b"), [("b",)])


class TestGenerators(unittest.TestCase):

    def test_by_trying_all_lots(self):
        for marks, rows in row_lists():
            reached = closings(marks, rows)
            for lot in reached:
                told = generators(Rules(marks, rows), lot)
                self.assertEqual(told, least_among([other for other in reached if reached[other] == reached[lot]]))

    def test_of_lots_that_are_not_closed(self):
        self.assertEqual([generators(CHAIN, lot) for lot in [("a",), ("a", "c"), ABC]], [[("a",)]] * 3)
        self.assertEqual(generators(AHEAD_OF_ALL, ()), [()])
        self.assertEqual(generators(AHEAD_OF_ALL, ("b", "c")), [("c",)])

    def test_some_do_not_stand_within_the_lot(self):
        rules = Rules(ABCD, [(("a",), ("b",)), (("b",), ("a",)), (("c", "d"), ("a",))])
        self.assertEqual(generators(rules, ("a",)), [("a",), ("b",)])
        self.assertEqual(generators(rules, ("a", "c", "d")), [("c", "d")])
        self.assertEqual(generators(rules, ("b", "c")), [("a", "c"), ("b", "c")])

    def test_of_no_marks(self):
        self.assertEqual([generators(NO_MARKS, ()), generators(Rules(ABC, []), ())], [[()], [()]])


class TestIndependent(unittest.TestCase):

    def test_by_leaving_out_each_mark(self):
        seen = []
        for marks, rows in row_lists():
            rules = Rules(marks, rows)
            for lot in lots_within(marks):
                told = is_independent(rules, lot)
                self.assertIs(told, independent_by_words(marks, rows, lot))
                seen.append(told)
        self.assertEqual(set(seen), {True, False})

    def test_all_in_order(self):
        for marks, rows in row_lists():
            lots = [lot for lot in lots_within(marks) if independent_by_words(marks, rows, lot)]
            self.assertEqual(independent_lots(Rules(marks, rows)), lots)

    def test_some(self):
        self.assertEqual(independent_lots(CHAIN), [(), ("a",), ("b",), ("c",)])
        self.assertEqual(independent_lots(AHEAD_OF_ALL), [(), ("a",), ("c",)])
        self.assertEqual([independent_lots(Rules(ABC, [])), independent_lots(NO_MARKS)], [lots_within(ABC), [()]])
        self.assertEqual(independent_lots(Rules(ABC, [((), ABC)])), [()])
        self.assertEqual([is_independent(CHAIN, ()), is_independent(CHAIN, ("a", "c"))], [True, False])


class TestAskedAgain(unittest.TestCase):

    def test_what_is_returned_may_be_changed(self):
        for call in [keys, independent_lots, lambda rules: givers(rules, "c"), lambda rules: generators(rules, ABC)]:
            rules = Rules(ABC, CHAIN.rows())
            told = call(rules)
            call(rules).clear()
            self.assertEqual([call(rules), rules], [told, CHAIN])


if __name__ == "__main__":
    unittest.main()
