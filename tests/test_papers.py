"""[52]."""

import unittest

from tests.plain import ABC, ABCD, answers_lists, any_values, closing_by_rows, fits, keeps, rules_of
from tests.test_answers import clashing, made, standing
from tests.test_deriving import derives
from thesesothose.deriving import derivation
from thesesothose.errors import Clash
from thesesothose.papers import failing, holding, is_paper, paper
from thesesothose.rules import Rules
from thesesothose.tables import Table

EACH = [(triple, rule) for triple in standing() for rule in rules_of(triple[0])[::3]]


def fits_by_words(marks, rows, things, lots):
    kept = all(keeps(lot, row) for lot in lots for row in rows)
    return kept and all(any(fits(lot, thing) for lot in lots) for thing in things)


def others(part):
    """What is like a part of a paper, but not it."""
    values = [*any_values(), part, [part], (part,), 0, 1, 2, 9, [], (), [0], [1], [9], [-1], [True], [0, [0]], "a", "b", "c", "d"]
    values += ["sure", "refuted", "open", "Sure", b"sure", Table(ABC, []), Table((), []), Table(ABCD, []), Rules(ABC, [])]
    if isinstance(part, list):
        values += [tuple(part), part[1:], part[:-1], [*part, 0], [*part, part]]
    return values


def shows(marks, rows, things, rule, told):
    """Whether a tuple with parts of the right kinds shows what its word says, by the words of the document."""
    ahead, behind = rule
    if told[0] == "sure":
        return len(told) == 2 and is_list_for(rows, rule, told[1])
    if told[0] == "open":
        if len(told) != 3 or not all(isinstance(part, Table) and part.marks == marks for part in told[1:]):
            return False
        if not all(fits_by_words(marks, rows, things, part.lots()) for part in told[1:]):
            return False
        return all(keeps(lot, rule) for lot in told[1]) and not all(keeps(lot, rule) for lot in told[2])
    if told[0] != "refuted" or len(told) != 5 or type(told[1]) is not int or not 0 <= told[1] < len(things):
        return False
    has, lacks = things[told[1]]
    if not is_list_for(rows, (has, ahead), told[2]) or told[4] not in lacks:
        return False
    return is_list_for(rows, (tuple(sorted({*has, *behind})), (told[4],)), told[3])


def is_list_for(rows, rule, indexes):
    if type(indexes) is not list or not all(type(index) is int and 0 <= index < len(rows) for index in indexes):
        return False
    return derives(rows, rule, indexes)


class TestTables(unittest.TestCase):

    def test_holding(self):
        seen = []
        for (marks, rows, things), rule in EACH:
            told = holding(made(marks, rows, things), rule)
            lots = [closing_by_rows(marks, [*rows, rule], has) for has, _ in things]
            if fits_by_words(marks, rows, things, lots):
                self.assertIsInstance(told, Table)
                self.assertEqual([told.marks, told.lots()], [marks, lots])
                self.assertTrue(all(keeps(lot, rule) for lot in lots))
            else:
                self.assertIsNone(told)
                self.assertEqual(made(marks, rows, things)[rule], "refuted")
            seen.append(told is None)
        self.assertEqual(set(seen), {True, False})

    def test_failing(self):
        seen = []
        for (marks, rows, things), rule in EACH:
            told = failing(made(marks, rows, things), rule)
            if set(rule[1]) <= set(closing_by_rows(marks, rows, rule[0])):
                self.assertIsNone(told)
            else:
                lots = [closing_by_rows(marks, rows, lot) for lot in [*[has for has, _ in things], rule[0]]]
                self.assertEqual([told.marks, told.lots()], [marks, lots])
                self.assertTrue(fits_by_words(marks, rows, things, lots))
                self.assertFalse(all(keeps(lot, rule) for lot in lots))
            seen.append(told is None)
        self.assertEqual(set(seen), {True, False})

    def test_without_things(self):
        answers = made(ABC, [], [])
        self.assertEqual([holding(answers, ((), ABC)).lots(), failing(answers, ((), ABC)).lots()], [[], [()]])
        self.assertIsNone(failing(answers, (ABC, ("a",))))


class TestPaper(unittest.TestCase):

    def test_by_words(self):
        seen = []
        for (marks, rows, things), rule in EACH:
            answers = made(marks, rows, things)
            told = paper(answers, rule)
            word = answers[rule]
            seen.append(word)
            self.assertIsInstance(told, tuple)
            self.assertEqual(told[0], word)
            if word == "sure":
                self.assertEqual(told, ("sure", derivation(Rules(marks, rows), rule)))
            elif word == "open":
                self.assertEqual(told, ("open", holding(answers, rule), failing(answers, rule)))
                self.assertEqual(told[2].lots(), failing(answers, rule).lots())
            else:
                self.refutation(marks, rows, things, rule, told)
            self.assertTrue(shows(marks, rows, things, rule, told))
            self.assertIs(is_paper(answers, rule, told), True)
        self.assertEqual(set(seen), {"sure", "refuted", "open"})

    def refutation(self, marks, rows, things, rule, told):
        ahead, behind = rule
        found = []
        for number, (has, lacks) in enumerate(things):
            reached = set(closing_by_rows(marks, rows, tuple(sorted({*has, *behind}))))
            if set(ahead) <= set(closing_by_rows(marks, rows, has)) and reached & set(lacks):
                found.append((number, min(reached & set(lacks))))
        number, mark = found[0]
        has = things[number][0]
        grown = tuple(sorted({*has, *behind}))
        to_ahead = derivation(Rules(marks, rows), (has, ahead))
        self.assertEqual(told, ("refuted", number, to_ahead, derivation(Rules(marks, rows), (grown, (mark,))), mark))

    def test_the_first_thing_and_the_first_mark(self):
        rows = [(("a",), ("b",)), (("c",), ("d",))]
        things = [((), ("c",)), (("a",), ("c", "d")), (("a", "b"), ("c",))]
        answers = made(ABCD, rows, things)
        self.assertEqual(paper(answers, (("b",), ("c",))), ("refuted", 1, [0], [], "c"))
        self.assertEqual(paper(answers, (("b",), ("a", "c"))), ("refuted", 1, [0], [], "c"))
        self.assertEqual(paper(made(ABCD, rows, [(("a",), ("d",))]), (("b",), ("c",))), ("refuted", 0, [0], [0, 1], "d"))
        self.assertEqual(paper(answers, ((), ("c",))), ("refuted", 0, [], [], "c"))

    def test_what_is_returned_may_be_changed(self):
        answers = made(ABC, [(("a",), ("b",))], [])
        paper(answers, (("a",), ("b",)))[1].clear()
        self.assertEqual(paper(answers, (("a",), ("b",))), ("sure", [0]))
        refuted = made(ABC, [], [(("a",), ("b",))])
        told = paper(refuted, ((), ("b",)))
        self.assertIsNot(told[2], told[3])


class TestIsPaper(unittest.TestCase):

    def test_one_part_put_otherwise(self):
        seen = {"sure": 0, "refuted": 0, "open": 0}
        for (marks, rows, things), rule in EACH:
            answers = made(marks, rows, things)
            told = paper(answers, rule)
            seen[told[0]] += 1
            if seen[told[0]] > 12:
                continue
            for place, part in enumerate(told):
                for other in others(part):
                    changed = (*told[:place], other, *told[place + 1:])
                    self.assertIs(is_paper(answers, rule, changed), shows(marks, rows, things, rule, changed), changed)
            for changed in [told[:-1], told[1:], (*told, told[-1]), (*told, None), list(told), told[::-1], (told,), [told]]:
                self.assertIs(is_paper(answers, rule, changed), False)
        self.assertGreater(min(seen.values()), 5)

    def test_any_value(self):
        answers = made(ABC, [(("a",), ("b",))], [(("a",), ("c",))])
        for rule in [(("a",), ("b",)), (("a",), ("c",)), (("c",), ("a",))]:
            for thing in [*any_values(), (), [], "sure", ("sure",), ("refuted",), ("open",), Table(ABC, []), answers]:
                self.assertIs(is_paper(answers, rule, thing), False)

    def test_any_derivation_will_do(self):
        answers = made(ABC, [(("a",), ("b",)), (("a",), ("c",)), (("b",), ("c",))], [])
        rule = (("a",), ("c",))
        for rows in [[1], [0, 2], [0, 1], [0, 0, 1, 2]]:
            self.assertIs(is_paper(answers, rule, ("sure", rows)), True)
        for rows in [[], [0], [2], [2, 0], (1,), [True], [1, 3], [-2]]:
            self.assertIs(is_paper(answers, rule, ("sure", rows)), False)

    def test_any_thing_and_any_mark_will_do(self):
        answers = made(ABCD, [(("a",), ("b",))], [((), ("d",)), (("a",), ("c", "d")), (("b",), ("c",))])
        rule = (("b",), ("c", "d"))
        self.assertEqual(paper(answers, rule), ("refuted", 1, [0], [], "c"))
        for thing in [("refuted", 1, [0], [], "c"), ("refuted", 1, [0], [], "d"), ("refuted", 2, [], [], "c"),
                      ("refuted", 1, [0, 0], [0], "d")]:
            self.assertIs(is_paper(answers, rule, thing), True)
        for thing in [("refuted", 0, [], [], "d"), ("refuted", 2, [], [], "d"), ("refuted", 1, [], [], "c"),
                      ("refuted", True, [0], [], "c"), ("refuted", -2, [0], [], "c"), ("refuted", 3, [], [], "c"),
                      ("refuted", 1, [0], [], "b"), ("refuted", 1, [0], [], ("c",)), ("refuted", 1, (0,), [], "c"),
                      ("refuted", 1, [0], (), "c"), ("refuted", 1, [0], [1], "c"), ("refuted", 1, [0], [], "cd")]:
            self.assertIs(is_paper(answers, rule, thing), False)

    def test_any_tables_will_do(self):
        answers = made(ABC, [(("a",), ("b",))], [((), ("c",))])
        rule = (("b",), ("a",))
        one, other = Table(ABC, [("a", "b")]), Table(ABC, [(), ("b",), ABC])
        self.assertIs(is_paper(answers, rule, ("open", one, other)), True)
        for thing in [("open", other, one), ("open", one, one), ("open", other, other), ("open", one, Table(ABC, [("a",), ("b",)])),
                      ("open", Table(ABC, []), other), ("open", one, Table(ABC, [("b", "c")])), ("open", one, [("b",)]),
                      ("open", Table(("a", "b"), [()]), other), ("open", one.lots(), other.lots()),
                      ("open", Table(ABC, [ABC]), other), ("sure", one, other), (b"open", one, other), ("open", [one, other])]:
            self.assertIs(is_paper(answers, rule, thing), False)

    def test_a_word_that_does_not_fit_the_rule(self):
        answers = made(ABC, [(("a",), ("b",))], [(("a",), ("c",))])
        papers = [(rule, paper(answers, rule)) for rule in rules_of(ABC)]
        for rule, _ in papers[::5]:
            for _, told in papers[::7]:
                self.assertIs(is_paper(answers, rule, told), shows(ABC, [(("a",), ("b",))], [(("a",), ("c",))], rule, told))


class TestClash(unittest.TestCase):

    def test_by_all(self):
        self.assertGreater(len(answers_lists()), len(standing()))
        for answers, number in clashing():
            for rule in [((), ()), ((), answers.marks)]:
                for act in [lambda: holding(answers, rule), lambda: failing(answers, rule), lambda: paper(answers, rule),
                            lambda: is_paper(answers, rule, None), lambda: is_paper(answers, rule, ("sure", []))]:
                    with self.assertRaises(Clash) as caught:
                        act()
                    self.assertEqual(caught.exception.number, number)


if __name__ == "__main__":
    unittest.main()
