"""[26]."""

import random
import unittest
from itertools import product

from tests.plain import ABC, ABCD, TEN, any_values, closed_by_rows, closing_by_rows, keeps, lots_within, row_lists
from tests.plain import rules_of, some_rows
from thesesothose.closing import gained
from thesesothose.deriving import against, derivation, is_derivation, shortest
from thesesothose.rules import Rules

CHAIN = [(("b",), ("c",)), (("a",), ("b",)), (("c",), ("d",)), (("a",), ("c",))]


def derives(rows, rule, indexes):
    """Whether indexes, a list of indexes of rows, is a derivation."""
    reached = set(rule[0])
    for index in indexes:
        ahead, behind = rows[index]
        if not set(ahead) <= reached:
            return False
        reached = reached | set(behind)
    return set(rule[1]) <= reached


def shortest_of_all(rows, rule, most):
    for many in range(most + 1):
        for indexes in product(range(len(rows)), repeat=many):
            if derives(rows, rule, indexes):
                return list(indexes)
    return None


def small_row_lists():
    chance = random.Random(26)
    drawn = [pair for pair in row_lists() if len(pair[0]) < 4 and len(pair[1]) < 5]
    return drawn + [(ABC, some_rows(chance, ABC, many)) for many in (3, 4, 5) for _ in range(6)]


class TestDerivation(unittest.TestCase):

    def test_nothing_to_do(self):
        rules = Rules(ABC, [(("a",), ("b",)), ((), ("c",))])
        for rule in [((), ()), (("a",), ()), (("a",), ("a",)), (ABC, ("a", "c"))]:
            self.assertEqual([derivation(rules, rule), shortest(rules, rule)], [[], []])

    def test_what_does_not_follow(self):
        rules = Rules(ABCD, CHAIN)
        for rule in [((), ("a",)), (("b",), ("a",)), (("b",), ("a", "c")), (("d",), ("a", "d"))]:
            self.assertIsNone(derivation(rules, rule))
            self.assertIsNone(shortest(rules, rule))
        self.assertIsNone(derivation(Rules(ABC, []), ((), ("a",))))

    def test_derivation_is_the_beginning_of_gained(self):
        for marks, rows in row_lists():
            rules = Rules(marks, rows)
            for ahead, behind in rules_of(marks)[::5]:
                steps = [(None, ahead), *gained(rules, ahead)]
                ends = [k for k in range(len(steps)) if set(behind) <= set(steps[k][1])]
                told = [index for index, _ in steps[1:ends[0] + 1]] if ends else None
                self.assertEqual(derivation(rules, (ahead, behind)), told)

    def test_derivation_stops_at_once(self):
        rules = Rules(ABCD, CHAIN)
        self.assertEqual(derivation(rules, (("a",), ("b",))), [1])
        self.assertEqual(derivation(rules, (("a",), ("c",))), [1, 3])
        self.assertEqual(derivation(rules, (("a",), ("d",))), [1, 3, 2])
        self.assertEqual(derivation(rules, (("a",), ("b", "d"))), [1, 3, 2])

    def test_shortest_by_trying_all(self):
        for marks, rows in small_row_lists():
            rules = Rules(marks, rows)
            for rule in rules_of(marks)[::3]:
                self.assertEqual(shortest(rules, rule), shortest_of_all(rows, rule, len(marks)), (rows, rule))

    def test_shortest_takes_short_cuts(self):
        rules = Rules(ABCD, CHAIN)
        self.assertEqual(shortest(rules, (("a",), ("d",))), [3, 2])
        self.assertEqual(shortest(rules + (("a",), ("d",)), (("a",), ("d",))), [4])
        marks = TEN[:6]
        steps = [((marks[k],), (marks[k + 1],)) for k in range(5)]
        self.assertEqual(shortest(Rules(marks, steps), (("a",), ("f",))), [0, 1, 2, 3, 4])
        self.assertEqual(shortest(Rules(marks, [*steps, (("b",), ("e",))]), (("a",), ("f",))), [0, 5, 4])

    def test_shortest_is_the_first_of_several(self):
        rows = [(("b",), ("d",)), (("c",), ("d",)), (("a",), ("c",)), (("a",), ("b",))]
        self.assertEqual(shortest(Rules(ABCD, rows), (("a",), ("d",))), [2, 1])
        self.assertEqual(shortest(Rules(ABCD, [rows[3], rows[3]]), (("a",), ("b",))), [0])
        self.assertEqual(shortest(Rules(ABC, [((), ("b",)), ((), ("a",))]), ((), ("a", "b"))), [0, 1])

    def test_told_lists_that_are_changed(self):
        rules = Rules(ABCD, CHAIN)
        for call in (derivation, shortest):
            first = call(rules, (("a",), ("d",)))
            told = list(first)
            first.clear()
            self.assertEqual(call(rules, (("a",), ("d",))), told)


class TestIsDerivation(unittest.TestCase):

    def asked(self, rule, thing):
        truth = is_derivation(Rules(ABCD, CHAIN), rule, thing)
        self.assertIsInstance(truth, bool)
        return truth

    def test_what_is_one(self):
        for thing in [[1, 3, 2], [3, 2], [1, 0, 2], [3, 2, 1], [3, 3, 2], [1, 1, 0, 0, 2, 2]]:
            self.assertTrue(self.asked((("a",), ("d",)), thing))
        self.assertTrue(self.asked((("a",), ("a",)), []))
        self.assertTrue(self.asked((("a",), ()), [1]))

    def test_what_is_none(self):
        for thing in [[], [2, 3], [3], [1, 2], [1, 0], [4], [3, 2, 4], [-1], [3, -2], [3, 10 ** 39], (3, 2), ()]:
            self.assertFalse(self.asked((("a",), ("d",)), thing))

    def test_rows_that_cannot_be_done_yet_even_where_all_is_met(self):
        self.assertFalse(self.asked((("a",), ("a",)), [0]))
        self.assertFalse(self.asked((("a",), ()), [0, 1]))

    def test_values_in_the_place_of_indexes(self):
        for thing in [True, False, None, "3", "", [3], (3,), (), {}, {3: 2}, b"3"]:
            self.assertFalse(self.asked((("a",), ("c",)), [thing]))
            self.assertFalse(self.asked((("a",), ("c",)), [3, thing]))
            self.assertFalse(self.asked((("b",), ("c",)), [thing]))
            self.assertFalse(self.asked((("a",), ()), [thing]))

    def test_any_value(self):
        for thing in any_values():
            self.assertFalse(self.asked((("a",), ("a",)), thing))
            self.assertFalse(self.asked((("a",), ("a",)), [1, thing]))

    def test_all_lists_of_three(self):
        for marks, rows in small_row_lists():
            rules = Rules(marks, rows)
            for rule in rules_of(marks)[::9]:
                for indexes in product(range(len(rows)), repeat=3):
                    self.assertIs(is_derivation(rules, rule, list(indexes)), derives(rows, rule, indexes))

    def test_those_that_are_returned_are_some(self):
        for marks, rows in row_lists():
            rules = Rules(marks, rows)
            for rule in rules_of(marks)[::7]:
                told = [derivation(rules, rule), shortest(rules, rule)]
                follows = set(rule[1]) <= set(closing_by_rows(marks, rows, rule[0]))
                self.assertEqual([is_derivation(rules, rule, thing) for thing in told], [follows, follows])


class TestAgainst(unittest.TestCase):

    def test_by_trying_all_closed_lots(self):
        for marks, rows in row_lists():
            rules = Rules(marks, rows)
            for rule in rules_of(marks)[::3]:
                broken_by = [lot for lot in closed_by_rows(marks, rows) if not keeps(lot, rule)]
                self.assertEqual(against(rules, rule), broken_by[0] if broken_by else None)

    def test_the_lot_without_marks(self):
        self.assertEqual(against(Rules(ABC, []), ((), ("a",))), ())
        self.assertIsNone(against(Rules((), []), ((), ())))
        self.assertIn(against(Rules(ABC, []), ((), ("a",))), lots_within(ABC))


if __name__ == "__main__":
    unittest.main()
