"""[41]."""

import unittest
from itertools import combinations

from tests.plain import ABC, any_values, closing_by, keeps, lots_within, rules_of
from tests.test_leastlist import known_rows, theories, with_known
from thesesothose.apart import are_apart, is_bound, shared_rule
from thesesothose.leastlist import needy_lots
from thesesothose.rules import Rules
from thesesothose.tables import Table


def small_theories():
    return [theory for theory in theories() if len(theory.marks) < 4]


def rules_of_theory(theory):
    return [rule for rule in rules_of(theory.marks) if set(rule[1]) <= set(closing_by(theory, rule[0]))]


def apart_by_words(theory, one, other):
    return not any(not keeps(one, rule) and not keeps(other, rule) for rule in rules_of_theory(theory))


class TestApart(unittest.TestCase):

    def test_by_trying_all_rules_of_the_theory(self):
        for theory in small_theories():
            rules = rules_of_theory(theory)
            for one in lots_within(theory.marks):
                for other in lots_within(theory.marks):
                    broken = [rule for rule in rules if not keeps(one, rule) and not keeps(other, rule)]
                    self.assertIs(are_apart(theory, one, other), broken == [])
                    told = shared_rule(theory, one, other)
                    if not broken:
                        self.assertIsNone(told)
                    else:
                        ahead = tuple(mark for mark in one if mark in other)
                        self.assertEqual(told, (ahead, closing_by(theory, ahead)))
                        self.assertIn(told, broken)

    def test_a_lot_and_itself(self):
        rules = Rules(ABC, [(("a",), ("b",))])
        self.assertIs(are_apart(rules, ("a",), ("a",)), False)
        self.assertEqual(shared_rule(rules, ("a",), ("a",)), (("a",), ("a", "b")))
        self.assertIs(are_apart(rules, ("b",), ("b",)), True)
        self.assertIsNone(shared_rule(rules, ("b",), ("b",)))


class TestIsBound(unittest.TestCase):

    def test_by_words(self):
        seen = []
        for theory, known in with_known():
            if len(theory.marks) > 3:
                continue
            lots = lots_within(theory.marks)
            able = [lot for lot in lots
                    if all(keeps(lot, row) for row in known_rows(known)) and closing_by(theory, lot) != lot]
            for one, other in combinations([*lots, *lots], 2):
                told = one in able and other in able and apart_by_words(theory, one, other)
                self.assertIs(is_bound(theory, [one, other], known=known), told)
                seen.append(told)
            for lot in lots:
                self.assertIs(is_bound(theory, [lot], known=known), lot in able)
            self.assertIs(is_bound(theory, [], known=known), True)
        self.assertEqual({True, False}, set(seen))

    def test_the_needy_lots_are_one_and_none_is_longer(self):
        for theory, known in with_known():
            lots = needy_lots(theory, known=known)
            self.assertIs(is_bound(theory, lots, known=known), True)
            self.assertIs(is_bound(theory, lots[::-1], known=known), True)
            self.assertIs(is_bound(theory, tuple(lots), known=known), False)
            self.assertIs(is_bound(theory, lots + lots[:1], known=known), lots == [])
            if len(theory.marks) < 4:
                for more in combinations(lots_within(theory.marks), len(lots) + 1):
                    self.assertIs(is_bound(theory, list(more), known=known), False)

    def test_each_pair_counts(self):
        rules = Rules(ABC, [(("a",), ABC), (("b",), ABC)])
        self.assertIs(is_bound(rules, [("a",), ("b",)]), True)
        self.assertIs(is_bound(rules, [("a",), ("b",), ("a", "c")]), False)
        self.assertIs(is_bound(rules, [("a", "c"), ("b",), ("a",)]), False)
        self.assertIs(is_bound(rules, [("b",), ("a",), ("a", "c")]), False)

    def test_known(self):
        rules = Rules(ABC, [(("a",), ("b",)), (("b",), ("c",))])
        self.assertIs(is_bound(rules, [("a",), ("b",)]), True)
        self.assertIs(is_bound(rules, [("a",), ("b",)], known=None), True)
        self.assertIs(is_bound(rules, [("a",), ("b",)], known=rules.without(1)), False)
        self.assertIs(is_bound(rules, [("b",)], known=rules.without(1)), True)

    def test_any_value(self):
        for theory in [Rules(ABC, [(("a",), ("b",))]), Table(ABC, [("b",), ABC]), Table(ABC, [])]:
            lots = needy_lots(theory)
            for thing in [*any_values(), (), ("a",), theory, ["a"], ("d",), ("a", "d"), ABC]:
                self.assertIs(is_bound(theory, thing), False)
                self.assertIs(is_bound(theory, [*lots, thing]), False)
                self.assertIs(is_bound(theory, [thing, *lots]), False)


if __name__ == "__main__":
    unittest.main()
