"""[61]."""

import unittest

from tests.plain import ABC, ABCD, any_values, closed_by, closing_by, keeps, rules_of
from tests.test_leastlist import theories
from thesesothose.answers import Answers
from thesesothose.errors import Wrong
from thesesothose.experts import Expert
from thesesothose.rules import Rules
from thesesothose.tables import Table

MANNERS = ["first", "last", "least", "part"]


def full(marks, lot):
    return (lot, tuple(mark for mark in marks if mark not in lot))


def told_by_words(theory, manner, rule):
    ahead, behind = rule
    lacked = tuple(mark for mark in behind if mark not in closing_by(theory, ahead))
    if not lacked:
        return None
    if manner == "least":
        return (ahead, lacked[:1])
    if manner == "part":
        return (ahead, lacked)
    lots = closed_by(theory) if isinstance(theory, Rules) else sorted(theory.lots(), key=lambda lot: (len(lot), lot))
    breaking = [lot for lot in lots if not keeps(lot, rule)]
    return full(theory.marks, breaking[0] if manner == "first" else breaking[-1])


class TestExpert(unittest.TestCase):

    def wrong(self, place, theory, manner):
        with self.assertRaises(Wrong) as caught:
            Expert(theory, manner)
        self.assertEqual(caught.exception.place, place)

    def test_by_words(self):
        for theory in theories():
            for manner in MANNERS:
                expert = Expert(theory, manner)
                for rule in rules_of(theory.marks)[::5]:
                    self.assertEqual(expert(rule), told_by_words(theory, manner, rule))

    def test_none_just_for_the_rules_of_the_theory(self):
        for theory in theories():
            for manner in MANNERS:
                for ahead, behind in rules_of(theory.marks)[::7]:
                    told = Expert(theory, manner)((ahead, behind))
                    self.assertIs(told is None, set(behind) <= set(closing_by(theory, ahead)))

    def test_what_is_told_is_against_the_rule_and_not_against_the_theory(self):
        for theory in theories():
            for manner in MANNERS:
                for rule in rules_of(theory.marks)[::11]:
                    told = Expert(theory, manner)(rule)
                    if told is not None:
                        answers = Answers(Rules(theory.marks, []), [told])
                        self.assertEqual(answers[rule], "refuted")
                        self.assertFalse(set(closing_by(theory, told[0])) & set(told[1]))

    def test_each_manner(self):
        theory = Rules(ABCD, [(("a",), ("b",))])
        rule = (("a",), ("b", "c", "d"))
        self.assertEqual([Expert(theory, manner)(rule) for manner in MANNERS], [
            (("a", "b"), ("c", "d")), (("a", "b", "d"), ("c",)), (("a",), ("c",)), (("a",), ("c", "d"))])
        table = Table(ABCD, [("a", "b", "d"), ("a",), ("b", "c"), ("a", "b"), ABCD])
        self.assertEqual([Expert(table, manner)(rule) for manner in MANNERS], [
            (("a",), ("b", "c", "d")), (("a", "b", "d"), ("c",)), (("a",), ("b",)), (("a",), ("b", "c", "d"))])

    def test_the_lots_of_a_table_and_not_its_closed_lots(self):
        table = Table(ABC, [("b", "c"), ("a", "b")])
        self.assertEqual(table(()), ("b",))
        self.assertEqual([Expert(table, "first")(((), ("a",))), Expert(table, "last")(((), ("c",)))],
                         [(("b", "c"), ("a",)), (("a", "b"), ("c",))])

    def test_properties(self):
        for theory in [Rules(ABC, [(("a",), ("b",))]), Table(ABC, [("b",)])]:
            for manner in MANNERS:
                expert = Expert(theory, manner)
                self.assertEqual([expert.theory, expert.manner], [theory, manner])
        with self.assertRaises(AttributeError):
            expert.theory = theory
        with self.assertRaises(AttributeError):
            expert.manner = "first"

    def test_theories_that_are_none(self):
        for theory in [*any_values(), [], (), ABC, (ABC, []), Answers(Rules(ABC, []), []), Expert(Rules(ABC, []), "first")]:
            self.wrong(0, theory, "first")
            self.wrong(0, theory, "none")

    def test_manners_that_are_none(self):
        for theory in [Rules(ABC, []), Table(ABC, [])]:
            for manner in [*any_values(), "First", "first ", b"first", ["first"], ("first",), 0, 1, "fir", "lasts", theory]:
                self.wrong(1, theory, manner)


if __name__ == "__main__":
    unittest.main()
