"""[51], with what [2] says of answers, [3] of copying, [4] of errors, and [5], the three words."""

import unittest
from itertools import combinations_with_replacement

from tests.plain import ABC, ABCD, TEN, answers_lists, any_values, closed_by_rows, closing_by_rows, fits, keeps
from tests.plain import lots_within, rules_of, tables_that_fit, things_of
from thesesothose.answers import Answers
from thesesothose.errors import Clash, NoRow, NoThing, Wrong
from thesesothose.rules import Rules
from thesesothose.tables import Table

ROWS = [(("a",), ("b",)), (("b", "c"), ("a",))]
THINGS = [(("a",), ("c",)), ((), ("a",)), (("a",), ("c",))]
NO_THINGS = [(("a",), ("a",)), (("a", "d"), ()), ((), ("d",)), (("b", "a"), ()), (("a",),), [("a",), ()], ("a", ()), ()]
NO_RULES = [(("a", "d"), ()), ((), ("d",)), (("b", "a"), ()), (("a",),), [("a",), ()], ("a", ()), (), []]


def some():
    return Answers(Rules(ABC, ROWS), THINGS)


def words_by_trying(marks, rows, things):
    """The words of all rules for answers that stand, by trying all tables."""
    tables = tables_that_fit(marks, rows, things)
    words = {}
    for rule in rules_of(marks):
        breaking = {lot for lot in lots_within(marks) if not keeps(lot, rule)}
        held = [breaking.isdisjoint(lots) for lots in tables]
        words[rule] = "sure" if all(held) else "open" if any(held) else "refuted"
    return words


def standing():
    """Those of the answers that stand, as triples."""
    return [triple for triple in answers_lists() if tables_that_fit(*triple)]


def clashing():
    """Those that do not, each with the number of the first thing that shows it."""
    pairs = [(made(*triple), clashing_by_words(*triple)) for triple in answers_lists()]
    return [(answers, number) for answers, number in pairs if number is not None]


def clashing_by_words(marks, rows, things):
    for number, (has, lacks) in enumerate(things):
        if set(closing_by_rows(marks, rows, has)) & set(lacks):
            return number
    return None


def made(marks, rows, things):
    return Answers(Rules(marks, rows), things)


class TestMaking(unittest.TestCase):

    def wrong(self, place, yeses, things):
        with self.assertRaises(Wrong) as caught:
            Answers(yeses, things)
        self.assertEqual(caught.exception.place, place)

    def test_a_list_and_a_tuple(self):
        self.assertEqual(Answers(Rules(ABC, ROWS), tuple(THINGS)).things(), THINGS)
        self.assertEqual([made(ABC, [], []).things(), made(ABC, [], ()).things(), made((), [], [((), ())]).things()],
                         [[], [], [((), ())]])

    def test_a_list_that_is_changed_behind(self):
        rows, things = list(ROWS), list(THINGS)
        answers = made(ABC, rows, things)
        rows.clear()
        things.append(((), ()))
        things[0] = ((), ())
        self.assertEqual([answers.things(), list(answers), len(answers), answers == some()], [THINGS, THINGS, 3, True])

    def test_yeses_that_are_no_rules(self):
        for yeses in [*any_values(), ROWS, [], (), Table(ABC, []), (ABC, ROWS), some()]:
            self.wrong(0, yeses, THINGS)
            self.wrong(0, yeses, None)

    def test_things_that_are_none(self):
        yeses = Rules(ABC, ROWS)
        for things in [*any_values(), some(), Table(ABC, []), yeses, *NO_THINGS[:-1]]:
            self.wrong(1, yeses, things)
        for thing in [*any_values(), *NO_THINGS]:
            self.wrong(1, yeses, [thing])
            self.wrong(1, yeses, (*THINGS, thing))
        self.wrong(1, Rules((), []), [(("a",), ())])


class TestReading(unittest.TestCase):

    def test_marks_yeses_things_len_and_iterating(self):
        self.assertEqual([some().marks, some().yeses, some().things(), len(some()), list(some())],
                         [ABC, Rules(ABC, ROWS), THINGS, 3, THINGS])
        self.assertEqual([len(made(ABC, ROWS, [])), list(made(ABC, ROWS, []))], [0, []])
        self.assertIsInstance(some().yeses, Rules)

    def test_told_lists_that_are_changed(self):
        answers = made(ABC, [(("a",), ("b",))], [(("a",), ("c",))])
        opens = answers.opens()
        answers.things().clear()
        answers.opens().clear()
        answers.yeses.rows().clear()
        self.assertEqual([answers.things(), list(answers), len(answers)], [[(("a",), ("c",))]] * 2 + [1])
        self.assertEqual([answers.opens(), answers.yeses.rows(), opens != []], [opens, [(("a",), ("b",))], True])

    def test_properties_are_not_assigned(self):
        with self.assertRaises(AttributeError):
            some().marks = ("a",)
        with self.assertRaises(AttributeError):
            some().yeses = Rules(ABC, [])


class TestStanding(unittest.TestCase):

    def test_by_trying_all_tables(self):
        for marks, rows, things in answers_lists():
            told = tables_that_fit(marks, rows, things) != []
            self.assertIs(made(marks, rows, things).stands(), told)

    def test_the_first_thing_that_clashes(self):
        numbers = []
        for marks, rows, things in answers_lists():
            told = made(marks, rows, things).clashing()
            self.assertEqual(told, clashing_by_words(marks, rows, things))
            numbers.append(told)
        self.assertTrue({None, 0, 1} <= set(numbers))
        self.assertEqual(made(ABC, ROWS, [((), ()), (ABC, ()), (("b", "c"), ("a",)), (("a",), ("b",))]).clashing(), 2)

    def test_no_things(self):
        self.assertEqual([made(ABC, [((), ABC)], []).stands(), made(ABC, [((), ABC)], []).clashing()], [True, None])


class TestIn(unittest.TestCase):

    def test_all_tables_of_two_marks(self):
        marks = ("a", "b")
        tables = [lots for many in range(4) for lots in combinations_with_replacement(lots_within(marks), many)]
        for rows in [[], [(("a",), ("b",))], [((), ("a",)), (("b",), ("a",))]]:
            for things in [[], [((), ())], [((), ("b",))], [(("b",), ()), ((), ("b",))], [(("a",), ("b",))]]:
                answers = made(marks, rows, things)
                for lots in tables:
                    told = all(keeps(lot, row) for lot in lots for row in rows)
                    told = told and all(any(fits(lot, thing) for lot in lots) for thing in things)
                    self.assertIs(Table(marks, lots) in answers, told)

    def test_one_lot_may_do_for_several_things(self):
        answers = made(ABC, [], [(("a",), ()), (("b",), ()), (("a",), ())])
        self.assertIs(Table(ABC, [("a", "b")]) in answers, True)
        self.assertIs(Table(ABC, [("a", "b"), (), ()]) in answers, True)
        self.assertIs(Table(ABC, [("a",), ("a",)]) in answers, False)

    def test_other_marks(self):
        for marks in [(), ("a", "b"), ABCD, ("a", "b", "d")]:
            self.assertIs(Table(marks, []) in made(ABC, [], []), False)
        self.assertIs(Table(ABC, []) in made(ABC, [], []), True)

    def test_answers_that_do_not_stand(self):
        for answers, _ in clashing():
            lots = lots_within(answers.marks)
            self.assertIs(Table(answers.marks, lots) in answers, False)
            self.assertIs(Table(answers.marks, [answers.yeses(thing[0]) for thing in answers]) in answers, False)

    def test_any_value(self):
        for thing in [*any_values(), [], [ABC], (ABC, []), Rules(ABC, []), made(ABC, [], []), 0, 1, (), ((), ())]:
            self.assertIs(thing in made(ABC, [], []), False)
            self.assertIs(thing in some(), False)


class TestWords(unittest.TestCase):

    def test_by_trying_all_tables(self):
        seen = []
        for marks, rows, things in standing():
            answers = made(marks, rows, things)
            for rule, word in words_by_trying(marks, rows, things).items():
                self.assertEqual(answers[rule], word)
                seen.append(word)
        self.assertEqual(set(seen), {"sure", "refuted", "open"})

    def test_as_the_three_words_tell(self):
        for marks, rows, things in standing():
            answers = made(marks, rows, things)
            for ahead, behind in rules_of(marks):
                word = answers[(ahead, behind)]
                self.assertEqual(word == "sure", set(behind) <= set(closing_by_rows(marks, rows, ahead)))
                led = [set(closing_by_rows(marks, [*rows, (ahead, behind)], has)) for has, _ in things]
                meets = [reached & set(lacks) for reached, (_, lacks) in zip(led, things)]
                self.assertEqual(word == "refuted", any(meets))

    def test_some(self):
        answers = made(ABC, [(("a",), ("b",))], [(("a",), ("c",))])
        self.assertEqual([answers[(("a",), ("b",))], answers[(("b",), ("c",))], answers[(("c",), ("a",))]],
                         ["sure", "refuted", "open"])
        self.assertEqual([answers[((), ())], answers[(ABC, ())], answers[(("c",), ("c",))], answers[((), ABC)]],
                         ["sure"] * 3 + ["refuted"])

    def test_clash(self):
        for answers, number in clashing():
            for rule in [((), ()), (answers.marks, ()), ((), answers.marks)]:
                with self.assertRaises(Clash) as caught:
                    answers[rule]
                self.assertEqual(caught.exception.number, number)


class TestOpens(unittest.TestCase):

    def test_by_words_in_order(self):
        for marks, rows, things in standing():
            words = words_by_trying(marks, rows, things)
            pairs = [(lot, mark) for lot in closed_by_rows(marks, rows) for mark in marks
                     if mark not in lot and words[(lot, (mark,))] == "open"]
            self.assertEqual(made(marks, rows, things).opens(), pairs)
            self.assertEqual(pairs == [], "open" not in words.values())

    def test_of_many_marks(self):
        things = [(TEN[:3], TEN[5:7]), (TEN[2:5], TEN[6:8]), ((), TEN[9:])]
        answers = made(TEN, [((mark,), TEN[:at]) for at, mark in enumerate(TEN)][:8], things)
        told = answers.opens()
        self.assertEqual(told, [(lot, mark) for lot in lots_within(TEN) if answers.yeses(lot) == lot
                                for mark in TEN if mark not in lot and answers[(lot, (mark,))] == "open"])

    def test_nothing_open(self):
        for answers in [made((), [], []), made(ABC, [((), ABC)], []), made(("a",), [], [((), ("a",))])]:
            self.assertEqual(answers.opens(), [])
        self.assertEqual(made(("a",), [], []).opens(), [((), "a")])

    def test_clash(self):
        for answers, number in clashing():
            with self.assertRaises(Clash) as caught:
                answers.opens()
            self.assertEqual(caught.exception.number, number)


class TestOthersMade(unittest.TestCase):

    def wrong(self, place, act):
        with self.assertRaises(Wrong) as caught:
            act()
        self.assertEqual(caught.exception.place, place)

    def same(self, answers, rows, things):
        self.assertIsInstance(answers, Answers)
        self.assertEqual([answers.marks, answers.yeses.rows(), answers.things()], [ABC, rows, things])

    def test_with_yes(self):
        rule = ((), ("c",))
        self.same(some().with_yes(rule), [*ROWS, rule], THINGS)
        self.same(some().with_yes(ROWS[0]), [*ROWS, ROWS[0]], THINGS)
        self.assertIs(some().with_yes(rule).stands(), False)

    def test_with_yes_that_is_none(self):
        for rule in [*any_values(), *NO_RULES, Rules(ABC, []), some()]:
            self.wrong(0, lambda: some().with_yes(rule))

    def test_without_yes(self):
        self.same(some().without_yes(0), ROWS[1:], THINGS)
        self.same(some().without_yes(1), ROWS[:1], THINGS)
        for index in [*any_values(), 2, 3, (), [], "0", (0,), ROWS[0]]:
            with self.assertRaises(NoRow) as caught:
                some().without_yes(index)
            self.assertIs(caught.exception.index, index)

    def test_with_yeses(self):
        rules = Rules(ABC, [((), ("c",))])
        self.same(some().with_yeses(rules), rules.rows(), THINGS)
        self.same(some().with_yeses(Rules(ABC, [])), [], THINGS)

    def test_with_yeses_that_are_none(self):
        others = [Rules(("a", "b"), []), Rules(ABCD, []), Rules((), []), Table(ABC, []), some(), ROWS, []]
        for rules in [*any_values(), *others]:
            self.wrong(0, lambda: some().with_yeses(rules))

    def test_with_thing(self):
        for thing in things_of(ABC):
            self.same(some().with_thing(thing), ROWS, [*THINGS, thing])

    def test_with_thing_that_is_none(self):
        for thing in [*any_values(), *NO_THINGS, [], some()]:
            self.wrong(0, lambda: some().with_thing(thing))

    def test_without_thing(self):
        for number in range(3):
            self.same(some().without_thing(number), ROWS, THINGS[:number] + THINGS[number + 1:])
        for number in [*any_values(), 3, 4, (), [], "0", (0,), THINGS[0]]:
            with self.assertRaises(NoThing) as caught:
                some().without_thing(number)
            self.assertIs(caught.exception.number, number)

    def test_the_others_stay_in_their_order(self):
        things = [((), (mark,)) for mark in ABC]
        self.same(made(ABC, ROWS, things).without_thing(1), ROWS, [things[0], things[2]])
        self.same(made(ABC, [*ROWS, ((), ("c",))], things).without_yes(1), [ROWS[0], ((), ("c",))], things)
        self.same(made(ABC, ROWS, things).with_more(1, (("a",), ())), ROWS, [things[0], (("a",), ("b",)), things[2]])

    def test_with_more(self):
        self.same(some().with_more(0, (("b",), ())), ROWS, [(("a", "b"), ("c",)), *THINGS[1:]])
        self.same(some().with_more(1, (("b",), ("a", "c"))), ROWS, [THINGS[0], (("b",), ("a", "c")), THINGS[2]])
        self.same(some().with_more(2, ((), ())), ROWS, THINGS)
        self.same(some().with_more(2, ((), ("b",))), ROWS, [*THINGS[:2], (("a",), ("b", "c"))])
        self.assertIs(some().with_more(2, ((), ("b",))).stands(), False)

    def test_with_more_of_no_thing(self):
        for number in [*any_values(), 3, 4, (), [], "0", (0,)]:
            for more in [((), ()), None]:
                with self.assertRaises(NoThing) as caught:
                    some().with_more(number, more)
                self.assertIs(caught.exception.number, number)

    def test_with_more_that_is_no_thing(self):
        for more in [*any_values(), *NO_THINGS, [], some()]:
            self.wrong(1, lambda: some().with_more(0, more))

    def test_with_more_that_does_not_go_together(self):
        for number, more in [(0, (("c",), ())), (0, ((), ("a",))), (1, (ABC, ())), (2, (("b", "c"), ("a",)))]:
            self.wrong(1, lambda: some().with_more(number, more))

    def test_nothing_is_changed(self):
        answers = some()
        for act in [lambda: answers.with_yes(((), ("c",))), lambda: answers.without_yes(0),
                    lambda: answers.with_yeses(Rules(ABC, [])), lambda: answers.with_thing(((), ())),
                    lambda: answers.without_thing(0), lambda: answers.with_more(0, (("b",), ())),
                    lambda: answers.with_yes(None), lambda: answers.without_yes(9), lambda: answers.with_yeses(None),
                    lambda: answers.with_thing(None), lambda: answers.without_thing(9), lambda: answers.with_more(9, None)]:
            try:
                act()
            except (Wrong, NoRow, NoThing):
                pass
            self.same(answers, ROWS, THINGS)


class TestComparing(unittest.TestCase):

    def test_equal(self):
        self.assertTrue(some() == some())
        self.assertFalse(some() != some())
        self.assertTrue(made((), [], []) == made((), [], ()))

    def test_order_and_number_count(self):
        for other in [made(ABC, ROWS[::-1], THINGS), made(ABC, ROWS, [*THINGS[1:], THINGS[0]]),
                      made(ABC, ROWS, THINGS[:2]), made(ABC, ROWS[:1], THINGS), made(ABCD, ROWS, THINGS)]:
            self.assertFalse(some() == other)
            self.assertTrue(some() != other)

    def test_equal_to_nothing_else(self):
        for thing in [*any_values(), THINGS, (ROWS, THINGS), Rules(ABC, ROWS), Table(ABC, []), []]:
            self.assertIs(some() == thing, False)
            self.assertIs(some() != thing, True)
            self.assertIs(thing == some(), False)
        self.assertFalse(made(ABC, [], []) == Rules(ABC, []))
        self.assertFalse(Rules(ABC, []) == made(ABC, [], []))
        self.assertFalse(Table(ABC, []) == made(ABC, [], []))


if __name__ == "__main__":
    unittest.main()
