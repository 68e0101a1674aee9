"""[83]."""

import unittest

from tests.plain import ABC, ABCD, closed_by_rows, closing_by_rows, lots_within, row_lists, rules_of
from thesesothose.alike import alike, gained_by, parting_lot, parting_rule
from thesesothose.errors import Unlike
from thesesothose.leastlist import least_list
from thesesothose.rules import Rules

CHAIN = Rules(ABC, [(("a",), ("b",)), (("b",), ("c",))])


def pairs():
    """Pairs of Rules with the same marks: any two that are drawn, and those that are alike in another way."""
    found = []
    for marks, rows in row_lists():
        one = Rules(marks, rows)
        found += [(one, Rules(marks, more)) for other, more in row_lists() if other == marks]
        found += [(one, least_list(one)), (one, Rules(marks, rows[::-1] + rows[:1])), (one, Rules(marks, rows[1:]))]
    return found


def follows(rules, rule):
    return set(rule[1]) <= set(closing_by_rows(rules.marks, rules.rows(), rule[0]))


def closed(rules):
    return closed_by_rows(rules.marks, rules.rows())


class TestAlike(unittest.TestCase):

    def test_by_trying_all_lots(self):
        seen = []
        for one, other in pairs():
            told = alike(one, other)
            self.assertIs(told, closed(one) == closed(other))
            self.assertIs(alike(other, one), told)
            seen.append((told, one == other))
        self.assertTrue({(True, True), (True, False), (False, False)} <= set(seen))

    def test_of_other_marks(self):
        for marks in [(), ("a", "b"), ABCD, ("a", "b", "d")]:
            for one, other in [(Rules(ABC, []), Rules(marks, [])), (Rules(ABC, [((), ABC)]), Rules(marks, [((), marks)]))]:
                self.assertIs(alike(one, other), False)
                self.assertIs(alike(other, one), False)
        self.assertIs(alike(Rules((), []), Rules((), [((), ())])), True)
        self.assertIs(alike(Rules(("a",), [(("a",), ())]), Rules(("b",), [])), False)


class TestPartingLot(unittest.TestCase):

    def test_by_trying_all_lots(self):
        seen = []
        for one, other in pairs():
            lots = [lot for lot in lots_within(one.marks) if (lot in closed(one)) != (lot in closed(other))]
            told = parting_lot(one, other)
            self.assertEqual(told, lots[0] if lots else None)
            self.assertEqual(parting_lot(other, one), told)
            self.assertIs(told is None, alike(one, other))
            seen.append(told is None or len(told))
        self.assertTrue({True, 0, 1, 2} <= set(seen))

    def test_some(self):
        self.assertEqual([parting_lot(CHAIN, CHAIN.without(0)), parting_lot(CHAIN, CHAIN.without(1))], [("a",), ("b",)])
        self.assertIsNone(parting_lot(CHAIN, CHAIN + (("a",), ("c",))))
        self.assertEqual(parting_lot(Rules(ABC, []), Rules(ABC, [((), ("a",))])), ())


class TestPartingRule(unittest.TestCase):

    def test_by_trying_all_rules(self):
        seen = []
        for one, other in pairs():
            # All with one mark behind, also those where it stands ahead, too.
            rules = [rule for rule in rules_of(one.marks) if len(rule[1]) == 1]
            parting = [rule for rule in rules if follows(one, rule) != follows(other, rule)]
            told = parting_rule(one, other)
            self.assertEqual(told, parting[0] if parting else None)
            self.assertEqual(parting_rule(other, one), told)
            self.assertIs(told is None, alike(one, other))
            seen.append(told is None or len(told[0]))
        self.assertTrue({True, 0, 1, 2} <= set(seen))

    def test_some(self):
        self.assertEqual(parting_rule(CHAIN, CHAIN.without(1)), (("a",), ("c",)))
        self.assertEqual(parting_rule(CHAIN.without(0), CHAIN), (("a",), ("b",)))
        self.assertEqual(parting_rule(Rules(ABC, []), Rules(ABC, [((), ("b", "c"))])), ((), ("b",)))
        self.assertEqual(parting_rule(Rules(ABC, [(("b", "c"), ("a",))]), Rules(ABC, [])), (("b", "c"), ("a",)))
        self.assertIsNone(parting_rule(CHAIN, Rules(ABC, CHAIN.rows()[::-1])))


class TestGainedBy(unittest.TestCase):

    def test_both_ways_about(self):
        seen = []
        for one, other in pairs():
            here, there = gained_by(one, other), gained_by(other, one)
            self.assertEqual(here, [lot for lot in lots_within(one.marks) if lot in closed(one) and lot not in closed(other)])
            self.assertEqual(there, [lot for lot in lots_within(one.marks) if lot in closed(other) and lot not in closed(one)])
            seen.append((here == [], there == []))
        self.assertEqual(len(set(seen)), 4)

    def test_some(self):
        self.assertEqual([gained_by(CHAIN.without(1), CHAIN), gained_by(CHAIN, CHAIN.without(1))], [[("b",), ("a", "b")], []])
        told = gained_by(Rules(ABC, []), CHAIN)
        told.clear()
        self.assertEqual(gained_by(Rules(ABC, []), CHAIN), [("a",), ("b",), ("a", "b"), ("a", "c")])


class TestUnlike(unittest.TestCase):

    def test_of_other_marks(self):
        for marks in [(), ("a", "b"), ABCD, ("a", "b", "d")]:
            for call in [parting_lot, parting_rule, gained_by]:
                for one, other in [(CHAIN, Rules(marks, [])), (Rules(marks, []), CHAIN)]:
                    with self.assertRaises(Unlike):
                        call(one, other)


if __name__ == "__main__":
    unittest.main()
