"""[53]."""

import random
import unittest
from itertools import combinations

from tests.plain import ABC, ABCD, TEN, any_values, fits, keeps, rules_of, tables_that_fit, things_of
from tests.test_answers import clashing, made, standing
from thesesothose.errors import Clash, NoThing
from thesesothose.rules import Rules
from thesesothose.tables import Table
from thesesothose.together import barring, can_hold, may, surely_has, surely_lacks

NONE_TOLD = ((), ())


def hold_together(tables, rules):
    """Whether all rules hold in one of some tables."""
    return any(all(keeps(lot, rule) for lot in lots for rule in rules) for lots in tables)


def lots_of_thing(tables, thing):
    """All lots that fit a thing in some table."""
    return {lot for lots in tables for lot in lots if fits(lot, thing)}


def rules_drawn(marks):
    chance = random.Random(53)
    lists = [[], [((), marks)], [((), ())], [((), marks), ((), ()), ((), marks)]]
    lists += [[((one,), (other,)) for one in marks for other in marks if one != other], [((), (mark,)) for mark in marks]]
    return lists + [chance.choices(rules_of(marks), k=many) for many in (1, 2, 3, 3, 4, 5)]


class TestRules(unittest.TestCase):

    def test_can_hold_by_trying_all_tables(self):
        seen = []
        for marks, rows, things in standing():
            tables = tables_that_fit(marks, rows, things)
            for rules in rules_drawn(marks):
                told = can_hold(made(marks, rows, things), rules)
                self.assertIs(told, hold_together(tables, rules))
                seen.append(told)
        self.assertEqual(set(seen), {True, False})

    def test_barring_by_trying_all_tables(self):
        seen = []
        for marks, rows, things in standing():
            tables = tables_that_fit(marks, rows, things)
            for rules in rules_drawn(marks):
                indexes = range(len(rules))
                sets = [some for many in range(len(rules) + 1) for some in combinations(indexes, many)]
                barred = [some for some in sets if not hold_together(tables, [rules[index] for index in some])]
                least = [some for some in barred if not any(set(other) < set(some) for other in barred)]
                told = barring(made(marks, rows, things), rules)
                self.assertEqual(told, [list(some) for some in least])
                seen.extend(len(some) for some in told)
        self.assertTrue({1, 2} <= set(seen))

    def test_each_open_and_yet_not_together(self):
        answers = made(ABCD, [], [(("a",), ("d",))])
        rules = [(("a",), ("b",)), (("b",), ("c",)), (("c",), ("d",)), (("a",), ("c",))]
        self.assertEqual([answers[rule] for rule in rules], ["open"] * 4)
        self.assertEqual([can_hold(answers, rules), can_hold(answers, rules[:2]), can_hold(answers, rules[:3])],
                         [False, True, False])
        self.assertEqual(barring(answers, rules), [[2, 3], [0, 1, 2]])

    def test_rules_that_stand_twice(self):
        answers = made(ABC, [], [(("a",), ("c",))])
        rule, other, bad = (("a",), ("b",)), (("b",), ("c",)), (("a",), ("c",))
        self.assertEqual(barring(answers, [rule, other, rule, other]), [[0, 1], [0, 3], [1, 2], [2, 3]])
        self.assertEqual(barring(answers, [bad, rule, bad]), [[0], [2]])
        self.assertEqual([can_hold(answers, [rule, rule]), can_hold(answers, [bad, bad])], [True, False])

    def test_no_rules(self):
        for triple in standing():
            self.assertEqual([can_hold(made(*triple), []), barring(made(*triple), [])], [True, []])

    def test_eight_rules(self):
        rules = [((), (mark,)) for mark in TEN[:8]]
        answers = made(TEN, [(TEN[:4], ("j",)), (TEN[4:8], ("j",))], [(("i",), ("j",))] * 3)
        self.assertEqual(barring(answers, rules), [[0, 1, 2, 3], [4, 5, 6, 7]])

    def test_what_is_passed_and_returned(self):
        answers = made(ABC, [], [((), ("a",))])
        rules = [((), ("a",)), ((), ("b",))]
        told = barring(answers, rules)
        told[0].append(7)
        self.assertEqual([told, barring(answers, rules)], [[[0, 7]], [[0]]])
        self.assertEqual([rules, answers.yeses.rows()], [[((), ("a",)), ((), ("b",))], []])


class TestThing(unittest.TestCase):

    def test_surely_by_trying_all_tables(self):
        for marks, rows, things in standing():
            tables = tables_that_fit(marks, rows, things)
            answers = made(marks, rows, things)
            for number, thing in enumerate(things):
                lots = lots_of_thing(tables, thing)
                self.assertEqual(surely_has(answers, number), tuple(m for m in marks if all(m in lot for lot in lots)))
                self.assertEqual(surely_lacks(answers, number), tuple(m for m in marks if not any(m in lot for lot in lots)))

    def test_may_by_trying_all_tables(self):
        seen = []
        for marks, rows, things in standing():
            tables = tables_that_fit(marks, rows, things)
            answers = made(marks, rows, things)
            for number, thing in enumerate(things):
                lots = lots_of_thing(tables, thing)
                for more in things_of(marks)[::4]:
                    told = may(answers, number, more)
                    self.assertIs(told, any(fits(lot, more) for lot in lots))
                    seen.append(told)
        self.assertEqual(set(seen), {True, False})

    def test_marks_together_and_not_one_by_one(self):
        answers = made(ABC, [(("a", "b"), ("c",))], [((), ("c",)), NONE_TOLD])
        self.assertEqual([surely_has(answers, 0), surely_lacks(answers, 0)], [(), ("c",)])
        self.assertEqual([may(answers, 0, ((mark,), ())) for mark in ABC], [True, True, False])
        self.assertEqual([may(answers, 0, (("a", "b"), ())), may(answers, 1, (("a", "b"), ()))], [False, True])
        self.assertEqual([may(answers, 1, (("a", "b"), ("c",))), may(answers, 1, (("a",), ("b",)))], [False, True])

    def test_what_is_told_already(self):
        answers = made(ABC, [(("a",), ("b",))], [(("a",), ("c",))])
        self.assertEqual([surely_has(answers, 0), surely_lacks(answers, 0)], [("a", "b"), ("c",)])
        mores = [NONE_TOLD, (("a",), ("c",)), ((), ("a",)), (("c",), ()), ((), ("b",)), (("b",), ())]
        self.assertEqual([may(answers, 0, more) for more in mores], [True, True, False, False, False, True])

    def test_no_thing(self):
        calls = [lambda answers, number: surely_has(answers, number), lambda answers, number: surely_lacks(answers, number),
                 lambda answers, number: may(answers, number, NONE_TOLD)]
        for answers in [made(ABC, [(("a",), ("b",))], [NONE_TOLD, (("a",), ("c",))]), made(ABC, [], [])]:
            for number in [*any_values(), 2, 3, (), [], [0], (0,), "0", NONE_TOLD, Rules(ABC, []), Table(ABC, [])]:
                for call in calls:
                    with self.assertRaises(NoThing) as caught:
                        call(answers, number)
                    self.assertIs(caught.exception.number, number)


class TestClash(unittest.TestCase):

    def test_by_all(self):
        for answers, first in clashing():
            for number in [0, -1, True, 99, None]:
                for act in [lambda: can_hold(answers, []), lambda: barring(answers, []), lambda: surely_has(answers, number),
                            lambda: surely_lacks(answers, number), lambda: may(answers, number, NONE_TOLD),
                            lambda: barring(answers, [((), ())]), lambda: can_hold(answers, [((), ())])]:
                    with self.assertRaises(Clash) as caught:
                        act()
                    self.assertEqual(caught.exception.number, first)


if __name__ == "__main__":
    unittest.main()
