"""[84], with [3] of dicts."""

import random
import unittest
from itertools import permutations

from tests.plain import ABC, ABCD, answers_lists, closed_by_rows, lot_lists, lots_within, row_lists, some_rows
from thesesothose.answers import Answers
from thesesothose.errors import Unlike
from thesesothose.renaming import answers_renamed, leading, lot_led, pair_led, renamed, table_renamed, turnings
from thesesothose.rules import Rules
from thesesothose.tables import Table

CHAIN = Rules(ABC, [(("a",), ("b",)), (("b",), ("c",))])
FIVE = ("a", "ab", "b", "c", "d")
# Names that exchange marks, lead to new ones, leave some out, have keys that are not met, and values that are met.
NAMES = [{}, {"a": "a"}, {"a": "b", "b": "a"}, {"a": "b", "b": "c", "c": "a"}, {"a": "z"}, {"c": "aa", "a": "z"},
         {"b": "ba", "ba": "ab", "ab": "b"}, {"x": "y"}, {"x": "a", "y": "a"}, {"a": "c", "c": "a", "x": "b"},
         {"b": "x", "x": "b"}, {"c": "b", "b": "c", "e": "c"}]


def led(lot, names):
    """A lot with the other marks, or None if two become one."""
    marks = [names[mark] if mark in names else mark for mark in lot]
    return tuple(sorted(marks)) if len(set(marks)) == len(marks) else None


def with_names(marks):
    """Those of the names that lead the marks to different ones."""
    return [names for names in NAMES if led(marks, names) is not None]


def small_rules():
    """Rules of none to five marks."""
    chance = random.Random(84)
    rules = [Rules(*pair) for pair in row_lists()]
    for marks in [("a",), ("a", "b"), ABC, ABCD, FIVE]:
        rules += [Rules(marks, some_rows(chance, marks, many)) for many in (0, 1, 2, 3)]
    return rules + [Rules(FIVE, [((), FIVE)]), Rules((), [])]


def orders_that_lead(one, other):
    """All dicts from the marks of one to those of other that lead the closed lots to each other."""
    lots, others = closed_by_rows(one.marks, one.rows()), closed_by_rows(other.marks, other.rows())
    if len(one.marks) != len(other.marks):
        return []
    every = [dict(zip(one.marks, order)) for order in permutations(other.marks)]
    return [names for names in every if {led(lot, names) for lot in lots} == set(others)]


class TestLed(unittest.TestCase):

    def test_lots_and_pairs(self):
        for names in NAMES:
            for lot in lots_within(ABCD):
                if led(lot, names) is not None:
                    self.assertEqual(lot_led(lot, names), led(lot, names))
                    for other in [(), ("a",), ("b", "c"), ABC]:
                        if led(other, names) is not None:
                            self.assertEqual(pair_led((lot, other), names), (led(lot, names), led(other, names)))
                            self.assertEqual(pair_led((other, lot), names), (led(other, names), led(lot, names)))

    def test_some(self):
        self.assertEqual([lot_led(ABC, {"a": "z"}), lot_led((), {"a": "z"}), lot_led(("a", "c"), {"a": "c", "c": "a"})],
                         [("b", "c", "z"), (), ("a", "c")])
        self.assertEqual(pair_led((("a", "b"), ("c",)), {"a": "c", "c": "a"}), (("b", "c"), ("a",)))


class TestRenamed(unittest.TestCase):

    def test_rules(self):
        for marks, rows in row_lists():
            for names in with_names(marks):
                told = renamed(Rules(marks, rows), names)
                self.assertIsInstance(told, Rules)
                self.assertEqual(told.marks, led(marks, names))
                self.assertEqual(told.rows(), [(led(ahead, names), led(behind, names)) for ahead, behind in rows])

    def test_tables(self):
        for marks, lots in lot_lists():
            for names in with_names(marks):
                told = table_renamed(Table(marks, lots), names)
                self.assertIsInstance(told, Table)
                self.assertEqual([told.marks, told.lots()], [led(marks, names), [led(lot, names) for lot in lots]])

    def test_answers(self):
        for marks, rows, things in answers_lists():
            for names in with_names(marks):
                told = answers_renamed(Answers(Rules(marks, rows), things), names)
                self.assertIsInstance(told, Answers)
                self.assertEqual(told.marks, led(marks, names))
                self.assertEqual(told.yeses.rows(), [(led(ahead, names), led(behind, names)) for ahead, behind in rows])
                self.assertEqual(told.things(), [(led(has, names), led(lacks, names)) for has, lacks in things])

    def test_some(self):
        self.assertEqual(renamed(CHAIN, {"b": "z"}), Rules(("a", "c", "z"), [(("a",), ("z",)), (("z",), ("c",))]))
        self.assertEqual(table_renamed(Table(ABC, [("a",), (), ("a",)]), {"a": "c", "c": "a"}).lots(), [("c",), (), ("c",)])

    def test_two_marks_become_one(self):
        # Also where only one of the two is a key, and where no row and no lot has them.
        bad = [{"a": "b"}, {"a": "c"}, {"b": "a", "c": "b"}, {"a": "z", "b": "z"}, {"a": "b", "b": "b"}, {"a": "b", "c": "a"}]
        for names in bad:
            for rows, lots, things in [([], [], []), ([(("a",), ())], [("a",)], [((), ("a",))])]:
                for call in [lambda: renamed(Rules(ABC, rows), names), lambda: table_renamed(Table(ABC, lots), names),
                             lambda: answers_renamed(Answers(Rules(ABC, rows), things), names)]:
                    with self.assertRaises(Unlike):
                        call()

    def test_keys_that_are_not_met(self):
        for names in [{"x": "a"}, {"x": "a", "y": "a"}, {"d": "z"}]:
            self.assertEqual(renamed(CHAIN, names), CHAIN)
            self.assertEqual(table_renamed(Table(ABC, [ABC]), names), Table(ABC, [ABC]))
            self.assertEqual(answers_renamed(Answers(CHAIN, [(("a",), ())]), names), Answers(CHAIN, [(("a",), ())]))

    def test_the_order_of_the_keys_means_nothing(self):
        for names in with_names(ABC):
            self.assertEqual(renamed(CHAIN, dict(reversed(list(names.items())))), renamed(CHAIN, names))

    def test_there_and_back(self):
        for marks, rows in row_lists():
            for names in with_names(marks):
                back = {names.get(mark, mark): mark for mark in marks}
                self.assertEqual(renamed(renamed(Rules(marks, rows), names), back), Rules(marks, rows))


class TestLeading(unittest.TestCase):

    def told_right(self, one, other):
        told, every = leading(one, other), orders_that_lead(one, other)
        if not every:
            self.assertIsNone(told)
        else:
            self.assertIsInstance(told, dict)
            self.assertIn(told, every)
            self.assertEqual(list(told), list(one.marks))
        return told

    def test_to_renamed_ones(self):
        for rules in small_rules():
            for names in with_names(rules.marks):
                other = renamed(Rules(rules.marks, rules.rows()[::-1]), names)
                self.assertIsNotNone(self.told_right(rules, other))

    def test_by_trying_all_orders(self):
        seen = []
        for one in small_rules():
            for other in [some for some in small_rules() if len(some.marks) in (len(one.marks), 2)]:
                seen.append(self.told_right(one, other) is None)
        self.assertEqual(set(seen), {True, False})

    def test_unlike_numbers_of_marks(self):
        for one, other in [(Rules(ABC, []), Rules(ABCD, [])), (Rules((), []), Rules(("a",), [])), (CHAIN, Rules((), []))]:
            self.assertIsNone(leading(one, other))
            self.assertIsNone(leading(other, one))
        for one in [Rules(marks, [((), marks)]) for marks in lots_within(ABCD)]:
            for other in [Rules(marks, [((), marks)]) for marks in lots_within(ABCD)]:
                self.assertIs(leading(one, other) is None, len(one.marks) != len(other.marks))

    def test_as_many_closed_lots_are_not_enough(self):
        one = Rules(ABC, [((), ("a",)), ((), ("b",))])
        self.assertIsNone(leading(one, Rules(ABC, [(("a",), ABC), (("b",), ABC), (("c",), ABC)])))
        fork, join = Rules(ABC, [(("a",), ("b", "c"))]), Rules(ABC, [(("a",), ("c",)), (("b",), ("c",))])
        self.assertEqual([leading(fork, join), leading(join, fork)], [None, None])

    def test_no_marks(self):
        told = leading(Rules((), []), Rules((), [((), ())]))
        self.assertEqual([told, turnings(Rules((), []))], [{}, [{}]])
        self.assertIsInstance(told, dict)

    def test_to_marks_of_other_names(self):
        self.assertEqual(leading(CHAIN, Rules(("x", "y", "z"), [(("x",), ("z",)), (("z",), ("y",))])),
                         {"a": "x", "b": "z", "c": "y"})


class TestTurnings(unittest.TestCase):

    def test_by_trying_all_orders(self):
        seen = []
        for rules in small_rules():
            every = orders_that_lead(rules, rules)
            told = turnings(rules)
            self.assertEqual(told, sorted(every, key=lambda names: list(names.values())))
            self.assertTrue(all(list(names) == list(rules.marks) for names in told))
            seen.append(len(told))
        self.assertTrue({1, 2, 6, 24, 120} <= set(seen))

    def test_some(self):
        self.assertEqual(turnings(Rules(ABC, [(("b",), ("a", "c"))])),
                         [{"a": "a", "b": "b", "c": "c"}, {"a": "c", "b": "b", "c": "a"}])
        self.assertEqual([list(names.values()) for names in turnings(Rules(ABC, []))],
                         [list(order) for order in permutations(ABC)])
        ring = Rules(ABCD, [(("a", "b"), ("c",)), (("b", "c"), ("d",)), (("c", "d"), ("a",)), (("a", "d"), ("b",))])
        self.assertEqual(len(turnings(ring)), len(orders_that_lead(ring, ring)))


class TestAskedAgain(unittest.TestCase):

    def test_what_is_passed_stays(self):
        for names in with_names(ABC):
            rules, table = Rules(ABC, CHAIN.rows()), Table(ABC, [("a",), ()])
            answers, passed = Answers(rules, [(("a",), ("c",))]), dict(names)
            renamed(rules, passed), table_renamed(table, passed), answers_renamed(answers, passed)
            lot_led(ABC, passed), pair_led((ABC, ()), passed)
            self.assertEqual([rules, table, answers], [CHAIN, Table(ABC, [("a",), ()]), Answers(CHAIN, [(("a",), ("c",))])])
            self.assertEqual([passed, list(passed)], [names, list(names)])

    def test_names_that_are_changed_behind(self):
        names = {"a": "z"}
        told = renamed(CHAIN, names)
        names["b"] = "y"
        names.pop("a")
        self.assertEqual(told, Rules(("b", "c", "z"), [(("z",), ("b",)), (("b",), ("c",))]))

    def test_told_lists_and_dicts_that_are_changed(self):
        rules = Rules(ABC, [])
        every = turnings(rules)
        every[0].clear()
        every.pop()
        told = leading(rules, rules)
        told["a"] = "d"
        self.assertEqual([len(turnings(rules)), turnings(rules)[0]], [6, {"a": "a", "b": "b", "c": "c"}])
        self.assertIn(leading(rules, rules), turnings(rules))
        self.assertEqual(len({id(names) for names in turnings(rules)}), 6)


if __name__ == "__main__":
    unittest.main()
