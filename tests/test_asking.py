"""[62], with [9]."""

import random
import unittest

from tests.plain import ABC, ABCD, closed_by_rows, closing_by, rules_of, some_truth, things_of
from tests.test_answers import clashing, made, standing, words_by_trying
from tests.test_leastlist import theories
from tests.test_wanting import possible
from thesesothose.answers import Answers
from thesesothose.asking import answered, asked, next_question, put_all
from thesesothose.errors import Clash, NotPossible, TooMany
from thesesothose.experts import Expert
from thesesothose.leastlist import least_list
from thesesothose.rules import Rules
from thesesothose.tables import Table
from thesesothose.wanting import missing

MANNERS = ["first", "last", "least", "part"]


def next_by_words(marks, rows, things):
    """The next question, by trying all tables."""
    words = words_by_trying(marks, rows, things)
    for lot in closed_by_rows(marks, rows):
        lacked = [mark for mark in marks if mark not in lot]
        if any(words[(lot, (mark,))] == "open" for mark in lacked):
            behind = ()
            for mark in lacked:
                if words[(lot, tuple(sorted((*behind, mark))))] != "refuted":
                    behind = tuple(sorted((*behind, mark)))
            return (lot, behind)
    return None


def small_experts():
    chance = random.Random(63)
    return [(answers, Expert(theory, manner)) for answers, theory in possible()
            for manner in chance.sample(MANNERS, 2) if len(theory.marks) < 5]


class TestNextQuestion(unittest.TestCase):

    def test_by_trying_all_tables(self):
        seen = []
        for marks, rows, things in standing():
            told = next_question(made(marks, rows, things))
            self.assertEqual(told, next_by_words(marks, rows, things))
            seen.append(told is None)
            if told is not None:
                self.assertEqual(made(marks, rows, things)[told], "open")
        self.assertEqual(set(seen), {True, False})

    def test_each_further_question(self):
        for answers, theory in possible()[::7]:
            if len(theory.marks) > 3:
                continue
            for manner in MANNERS:
                reached = answers
                for _ in range(8):
                    rule = next_question(reached)
                    self.assertEqual(rule, next_by_words(theory.marks, reached.yeses.rows(), reached.things()))
                    if rule is None:
                        break
                    reached = answered(reached, rule, Expert(theory, manner)(rule))

    def test_marks_that_are_open_one_by_one_and_not_together(self):
        rows = [(("a", "b"), ("c",))]
        answers = made(ABC, rows, [((), ("c",))])
        self.assertEqual([answers[((), ("a",))], answers[((), ("b",))], answers[((), ("a", "b"))]], ["open", "open", "refuted"])
        self.assertEqual(next_question(answers), ((), ("a",)))
        other = made(ABCD, [(("a", "c"), ("d",))], [((), ("d",)), (("a",), ())])
        self.assertEqual(next_question(other), ((), ("a", "b")))
        refuted = made(ABC, [], [((), ("a",))])
        self.assertEqual(next_question(refuted), ((), ("b", "c")))

    def test_ahead_is_closed_by_the_yeses(self):
        things = [((), ("a",)), ((), ("b",)), ((), ("c",))]
        self.assertEqual(next_question(made(ABC, [], things)), (("a",), ("b", "c")))
        self.assertEqual(next_question(made(ABC, [(("a",), ("b",))], things)), (("b",), ("a", "c")))

    def test_none_just_if_nothing_is_open(self):
        for triple in standing():
            answers = made(*triple)
            self.assertIs(next_question(answers) is None, answers.opens() == [])
            self.assertIs(next_question(answers) is None, "open" not in words_by_trying(*triple).values())

    def test_clash(self):
        for answers, number in clashing():
            with self.assertRaises(Clash) as caught:
                next_question(answers)
            self.assertEqual(caught.exception.number, number)


class TestAnswered(unittest.TestCase):

    def test_a_yes_and_a_thing(self):
        for triple in standing()[::3]:
            answers = made(*triple)
            for rule in rules_of(triple[0])[::9]:
                self.assertEqual(answered(answers, rule, None), answers.with_yes(rule))
                for thing in things_of(triple[0])[::5]:
                    self.assertEqual(answered(answers, rule, thing), answers.with_thing(thing))

    def test_what_comes_need_not_stand(self):
        answers = made(ABC, [(("a",), ("b",))], [(("b",), ("c",))])
        self.assertIs(answered(answers, (("b",), ("c",)), None).stands(), False)
        self.assertIs(answered(answers, (("b",), ("c",)), (("a",), ("b",))).stands(), False)
        self.assertIs(answered(answers, (("b",), ("a",)), ((), ())).stands(), True)

    def test_clash(self):
        for answers, number in clashing():
            for answer in [None, ((), ())]:
                with self.assertRaises(Clash) as caught:
                    answered(answers, ((), ()), answer)
                self.assertEqual(caught.exception.number, number)


class TestAsked(unittest.TestCase):

    def test_question_by_question(self):
        for answers, expert in small_experts():
            reached, log = asked(answers, expert)
            now = answers
            for rule, answer in log:
                self.assertEqual([rule, answer], [next_question(now), expert(rule)])
                self.assertEqual(now[rule], "open")
                now = now.with_yes(rule) if answer is None else now.with_thing(answer)
            self.assertEqual([reached, next_question(reached), reached.opens()], [now, None, []])
            self.assertEqual(missing(reached, expert.theory), 0)
            self.assertTrue(all(isinstance(entry, tuple) for entry in log))

    def test_who_knows_nothing_gets_just_the_rows_of_the_list(self):
        for theory in theories():
            if len(theory.marks) > 4:
                continue
            for manner in MANNERS:
                reached, log = asked(Answers(Rules(theory.marks, []), []), Expert(theory, manner))
                rows = least_list(theory).rows()
                self.assertEqual(reached.yeses.rows(), rows)
                self.assertEqual([rule for rule, answer in log if answer is None], rows)
                self.assertEqual(reached.things(), [answer for _, answer in log if answer is not None])

    def test_what_is_returned(self):
        told = asked(made(ABC, [], []), Expert(Rules(ABC, [((), ABC)]), "part"))
        self.assertIsInstance(told, tuple)
        self.assertEqual(told, (made(ABC, [((), ABC)], []), [(((), ABC), None)]))
        told[1].clear()
        self.assertEqual(len(asked(made(ABC, [], []), Expert(Rules(ABC, [((), ABC)]), "part"))[1]), 1)

    def test_nothing_to_ask(self):
        answers = made(ABC, [((), ABC)], [])
        self.assertEqual(asked(answers, Expert(Table(ABC, []), "first")), (answers, []))
        self.assertEqual(asked(answers, Expert(Table(ABC, []), "first"), most=0), (answers, []))

    def test_limits(self):
        for answers, expert in small_experts()[::5]:
            told = asked(answers, expert)
            many = len(told[1])
            for most in [many, many + 1, 2000]:
                self.assertEqual(asked(answers, expert, most=most), told)
            for most in sorted({0, many // 2, many - 1}):
                if 0 <= most < many:
                    with self.assertRaises(TooMany) as caught:
                        asked(answers, expert, most=most)
                    self.assertEqual(caught.exception.limit, most)

    def test_the_limit_left_out(self):
        self.assertEqual(asked.__kwdefaults__, {"most": 2000})

    def test_not_possible(self):
        for answers, theory in [(made(ABC, [(("a",), ("b",))], []), Rules(ABC, [])), (made(ABC, [], []), Rules(ABCD, [])),
                                (made(ABC, [], [((), ("a",))]), Rules(ABC, [((), ("a",))])),
                                (made(ABC, [(("a",), ("b",))], [(("a",), ("b",))]), Rules(ABC, [(("a",), ("b",))]))]:
            for manner in MANNERS:
                for call in [lambda: asked(answers, Expert(theory, manner)), lambda: asked(answers, Expert(theory, manner), most=0),
                             lambda: put_all(answers, Expert(theory, manner), []),
                             lambda: put_all(answers, Expert(theory, manner), [((), ("a",))])]:
                    with self.assertRaises(NotPossible):
                        call()


class TestPutAll(unittest.TestCase):

    def test_each_place_once_in_its_order(self):
        chance = random.Random(64)
        for answers, expert in small_experts()[::3]:
            rules = chance.choices(rules_of(answers.marks), k=5)
            rules = [*rules, rules[0], rules[0]]
            reached, log = put_all(answers, expert, rules)
            self.assertEqual(log, [(rule, expert(rule)) for rule in rules])
            self.assertEqual(reached.yeses.rows(), answers.yeses.rows() + [rule for rule, answer in log if answer is None])
            self.assertEqual(reached.things(), answers.things() + [answer for _, answer in log if answer is not None])

    def test_what_is_settled_and_what_stands_twice(self):
        theory = Rules(ABC, [(("a",), ("b",))])
        yes, no = (("a",), ("b",)), (("b",), ("c",))
        told = put_all(made(ABC, [yes], []), Expert(theory, "least"), [yes, no, no, ((), ()), yes])
        self.assertEqual(told, (made(ABC, [yes, yes, ((), ()), yes], [(("b",), ("c",))] * 2),
                                [(yes, None), (no, (("b",), ("c",))), (no, (("b",), ("c",))), (((), ()), None), (yes, None)]))

    def test_an_empty_list(self):
        chance = random.Random(65)
        for theory in theories():
            rows, things = some_truth(chance, theory, 1, 1)
            answers = made(theory.marks, rows, things)
            self.assertEqual(put_all(answers, Expert(theory, "first"), []), (answers, []))

    def test_what_is_passed_is_not_changed(self):
        theory = Table(ABC, [("a", "b"), ("c",)])
        answers, rules = made(ABC, [], []), [(("a",), ("b",)), ((), ("a",))]
        put_all(answers, Expert(theory, "last"), rules)[1].clear()
        self.assertEqual([answers, rules], [made(ABC, [], []), [(("a",), ("b",)), ((), ("a",))]])
        asked(answers, Expert(theory, "last"))
        self.assertEqual([answers, closing_by(theory, ("c",))], [made(ABC, [], []), ("c",)])


if __name__ == "__main__":
    unittest.main()
