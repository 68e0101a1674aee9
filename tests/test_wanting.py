"""[60], with [7] and [8]."""

import random
import unittest
from itertools import combinations, permutations

from tests.plain import ABC, ABCD, TEN, any_values, closed_by, closing_by, lots_within, narrow_by_words, rules_of
from tests.plain import some_rows, some_truth, things_of
from tests.test_leastlist import needy_by_words, theories
from thesesothose.answers import Answers
from thesesothose.apart import is_bound
from thesesothose.asking import answered
from thesesothose.errors import NoLot, NotPossible
from thesesothose.experts import Expert
from thesesothose.leastlist import needy_lots
from thesesothose.rules import Rules
from thesesothose.tables import Table, table_of
from thesesothose.wanting import is_floor, missing, questions, shows, tellings, unshown

MANNERS = ["first", "last", "least", "part"]


def possible():
    """Pairs of answers, and a theory that is possible for them."""
    chance = random.Random(60)
    pairs = []
    for theory in theories():
        for yeses, many in [(0, 0), (1, 1), (2, 3), (0, 5), (3, 0)]:
            rows, things = some_truth(chance, theory, yeses, many)
            pairs.append((Answers(Rules(theory.marks, rows), things), theory))
    return pairs


def small():
    return [(answers, theory) for answers, theory in possible() if len(theory.marks) < 4][::2]


def shows_by_words(theory, thing, lot):
    for narrow_lot, above in narrow_by_words(theory):
        if narrow_lot == lot:
            return closing_by(theory, thing[0]) == lot and bool(set(thing[1]) & (set(above) - set(lot)))
    return False


def unshown_by_words(answers, theory):
    lots = [lot for lot, _ in narrow_by_words(theory)]
    return [lot for lot in lots if not any(shows_by_words(theory, thing, lot) for thing in answers.things())]


def is_of(theory, rule):
    return set(rule[1]) <= set(closing_by(theory, rule[0]))


class TestShows(unittest.TestCase):

    def test_by_words(self):
        seen = []
        for theory in theories():
            chance = random.Random(len(theory))
            things = chance.sample(things_of(theory.marks), min(20, len(things_of(theory.marks))))
            for lot in lots_within(theory.marks):
                for thing in things:
                    told = shows(theory, thing, lot)
                    self.assertIs(told, shows_by_words(theory, thing, lot))
                    seen.append(told)
        self.assertEqual(set(seen), {True, False})

    def test_some(self):
        theory = Rules(ABC, [(("a",), ("b",))])
        lot = ("a", "b")
        self.assertIs(shows(theory, (("a",), ("c",)), lot), True)
        self.assertIs(shows(theory, (("a", "b"), ("c",)), lot), True)
        for thing in [(("a",), ()), (("b",), ("c",)), ((), ("c",)), (("a",), ("b",)), (ABC, ())]:
            self.assertIs(shows(theory, thing, lot), False)
        for lot in [(), ("a",), ("b",), ABC]:
            self.assertIs(shows(theory, (lot, ()), lot), False)
            self.assertIs(shows(theory, (lot, tuple(mark for mark in ABC if mark not in lot)), lot), False)


class TestTellings(unittest.TestCase):

    def test_by_looking_at_all_things(self):
        for theory in theories():
            for lot, _ in narrow_by_words(theory):
                pairs = [(has, lacks) for has, lacks in things_of(theory.marks) if shows_by_words(theory, (has, lacks), lot)]
                least = [one for one in pairs if not any(other != one and set(other[0]) <= set(one[0])
                                                         and set(other[1]) <= set(one[1]) for other in pairs)]
                self.assertEqual(tellings(theory, lot), least)

    def test_some(self):
        theory = Rules(ABCD, [(("a",), ("b",)), (("b",), ("a",)), (("c",), ("d",)), (("d",), ("c",))])
        self.assertEqual(tellings(theory, ("a", "b")), [(("a",), ("c",)), (("a",), ("d",)), (("b",), ("c",)), (("b",), ("d",))])
        self.assertEqual(tellings(Rules(("a",), []), ()), [((), ("a",))])

    def test_lots_that_are_not_narrow(self):
        for theory in theories():
            narrow_lots = [lot for lot, _ in narrow_by_words(theory)]
            for lot in [*lots_within(theory.marks), ("zz",)]:
                if lot not in narrow_lots:
                    with self.assertRaises(NoLot) as caught:
                        tellings(theory, lot)
                    self.assertIs(caught.exception.lot, lot)

    def test_any_value(self):
        for theory in [Rules(ABC, [(("a",), ("b",))]), Table(ABC, [("b",), ABC]), Rules(ABC, []), Table(ABC, [])]:
            for thing in [*any_values(), [], ["a", "b"], ["c"], ("d",), ABC, theory, 0, 1, (("a",),)]:
                with self.assertRaises(NoLot) as caught:
                    tellings(theory, thing)
                self.assertIs(caught.exception.lot, thing)

    def test_what_is_returned_may_be_changed(self):
        theory = Rules(ABC, [(("a",), ("b",))])
        tellings(theory, ("c",)).clear()
        self.assertEqual(tellings(theory, ("c",)), [(("c",), ("b",))])


class TestMissing(unittest.TestCase):

    def test_by_words(self):
        for answers, theory in possible():
            left = unshown_by_words(answers, theory)
            needy = needy_by_words(theory, answers.yeses)
            self.assertEqual(unshown(answers, theory), left)
            self.assertEqual(missing(answers, theory), len(left) + len(needy))
            rows = [(lot, tuple(mark for mark in closing_by(theory, lot) if mark not in lot)) for lot in needy]
            gaps = {lot: tuple(mark for mark in above if mark not in lot) for lot, above in narrow_by_words(theory)}
            self.assertEqual(questions(answers, theory), rows + [(lot, gaps[lot]) for lot in left])

    def test_none_is_missing_just_if_nothing_is_open_and_just_the_rules_of_the_theory_are_sure(self):
        seen = []
        for answers, theory in small():
            words = {rule: answers[rule] for rule in rules_of(theory.marks)}
            settled = all(word == ("sure" if is_of(theory, rule) else "refuted") for rule, word in words.items())
            self.assertEqual(missing(answers, theory) == 0, settled)
            self.assertEqual(missing(answers, theory) == 0, answers.opens() == [] and
                             all((words[rule] == "sure") == is_of(theory, rule) for rule in words))
            seen.append(settled)
        self.assertEqual(set(seen), {True, False})

    def test_no_answer_lowers_it_by_more_than_one(self):
        lowered = []
        for answers, theory in small()[::3]:
            many = missing(answers, theory)
            experts = [Expert(theory, manner) for manner in MANNERS]
            for rule in rules_of(theory.marks)[::3]:
                for expert in experts:
                    lowered.append(many - missing(answered(answers, rule, expert(rule)), theory))
            for lot in closed_by(theory):
                thing = (lot, tuple(mark for mark in theory.marks if mark not in lot))
                lowered.append(many - missing(answers.with_thing(thing), theory))
        self.assertEqual(set(lowered), {0, 1})

    def test_ten_marks(self):
        rules = Rules(TEN, some_rows(random.Random(61), TEN, 12))
        answers = Answers(Rules(TEN, []), [])
        asks = questions(answers, rules)
        self.assertEqual([len(asks), missing(answers, rules)], [missing(answers, rules), len(unshown(answers, rules))
                                                                + len(needy_lots(rules))])

    def test_what_is_returned_may_be_changed(self):
        answers, theory = Answers(Rules(ABC, []), []), Rules(ABC, [(("a",), ("b",))])
        questions(answers, theory).clear()
        unshown(answers, theory).clear()
        self.assertEqual([len(questions(answers, theory)), len(unshown(answers, theory))], [4, 3])


class TestAnyOrder(unittest.TestCase):

    def orders(self, asks):
        if len(asks) < 4:
            return list(permutations(asks))
        chance = random.Random(8)
        return [asks, asks[::-1], *[chance.sample(asks, len(asks)) for _ in range(4)]]

    def test_each_question_is_open_at_its_turn_and_lowers_the_number_by_one(self):
        for answers, theory in small():
            asks = questions(answers, theory)
            self.assertEqual(len(asks), missing(answers, theory))
            for place, order in enumerate(self.orders(asks)):
                reached = answers
                for number, rule in enumerate(order):
                    self.assertEqual(missing(reached, theory), len(order) - number)
                    self.assertEqual(reached[rule], "open")
                    reached = answered(reached, rule, Expert(theory, MANNERS[(place + number) % 4])(rule))
                self.assertEqual([missing(reached, theory), reached.opens()], [0, []])


class TestPossible(unittest.TestCase):

    def not_possible(self, answers, theory):
        for call in [lambda: unshown(answers, theory), lambda: missing(answers, theory), lambda: questions(answers, theory),
                     lambda: is_floor(answers, theory, ([], [])), lambda: is_floor(answers, theory, None)]:
            with self.assertRaises(NotPossible):
                call()

    def test_a_yes_that_is_no_rule_of_the_theory(self):
        answers = Answers(Rules(ABC, [(("a",), ("b",)), (("b",), ("c",))]), [])
        self.not_possible(answers, Rules(ABC, [(("a",), ("b",))]))
        self.not_possible(answers, Table(ABC, [("b",)]))
        self.assertEqual(missing(answers, answers.yeses), len(unshown(answers, answers.yeses)))

    def test_a_thing_that_the_theory_bars(self):
        answers = Answers(Rules(ABC, []), [((), ("c",)), (("a",), ("b",))])
        self.not_possible(answers, Rules(ABC, [(("a",), ("b",))]))
        self.not_possible(answers, Rules(ABC, [((), ("c",))]))
        self.not_possible(answers, Table(ABC, [("c",), ("a", "c"), ABC]))
        self.not_possible(answers, Table(ABC, []))

    def test_other_marks(self):
        for marks in [(), ("a", "b"), ABCD, ("a", "b", "d")]:
            self.not_possible(Answers(Rules(ABC, []), []), Rules(marks, []))
            self.not_possible(Answers(Rules(ABC, []), []), Table(marks, []))

    def test_answers_that_do_not_stand(self):
        answers = Answers(Rules(ABC, [(("a",), ("b",))]), [(("a",), ("b",))])
        self.not_possible(answers, answers.yeses)
        self.not_possible(answers, Rules(ABC, []))

    def test_by_words(self):
        chance = random.Random(62)
        seen = []
        for theory in theories():
            for _ in range(4):
                rows = [rule for rule in some_rows(chance, theory.marks, 1)]
                things = [chance.choice(things_of(theory.marks)) for _ in range(chance.randrange(3))]
                able = all(is_of(theory, row) for row in rows)
                able = able and not any(set(closing_by(theory, has)) & set(lacks) for has, lacks in things)
                seen.append(able)
                if able:
                    self.assertGreaterEqual(missing(Answers(Rules(theory.marks, rows), things), theory), 0)
                else:
                    self.not_possible(Answers(Rules(theory.marks, rows), things), theory)
        self.assertEqual(set(seen), {True, False})

    def test_a_table_and_rules_with_its_closings_are_the_same_theory(self):
        for answers, theory in possible()[::4]:
            table = table_of(theory)
            self.assertEqual([unshown(answers, table), missing(answers, table), questions(answers, table)],
                             [unshown(answers, theory), missing(answers, theory), questions(answers, theory)])


class TestIsFloor(unittest.TestCase):

    def test_by_words(self):
        seen = []
        for answers, theory in small()[::4]:
            left, lots = unshown_by_words(answers, theory), lots_within(theory.marks)
            for ones in [[], *[[lot] for lot in lots], *map(list, combinations(lots[::-1], 2))]:
                bound = is_bound(theory, ones, known=answers.yeses)
                for others in [[], left, left[::-1], left[1:], left[:1] * 2, [*left, ()], lots[:1]]:
                    told = is_floor(answers, theory, (ones, others))
                    good = len(set(others)) == len(others) and all(other in left for other in others)
                    self.assertIs(told, bound and good)
                    seen.append(told)
                    if told:
                        self.assertLessEqual(len(ones) + len(others), missing(answers, theory))
        self.assertEqual(set(seen), {True, False})

    def test_the_needy_lots_and_those_unshown_are_one(self):
        for answers, theory in possible():
            needy = needy_lots(theory, known=answers.yeses)
            left = unshown(answers, theory)
            self.assertIs(is_floor(answers, theory, (needy, left)), True)
            self.assertIs(is_floor(answers, theory, (left, needy)), needy == left == [])
            for thing in [[needy, left], (tuple(needy), left), (needy, tuple(left)), (needy, left, []), (needy,)]:
                self.assertIs(is_floor(answers, theory, thing), False)

    def test_the_yeses_are_known(self):
        theory = Rules(ABC, [(("a",), ("b",)), (("b",), ("c",))])
        self.assertIs(is_floor(Answers(Rules(ABC, []), []), theory, ([("a",), ("b",)], [])), True)
        self.assertIs(is_floor(Answers(theory.without(1), []), theory, ([("a",), ("b",)], [])), False)
        self.assertIs(is_floor(Answers(theory.without(1), []), theory, ([("b",)], [])), True)

    def test_any_value(self):
        answers, theory = Answers(Rules(ABC, []), [(("c",), ("b",))]), Rules(ABC, [(("a",), ("b",))])
        self.assertIs(is_floor(answers, theory, ([("a",)], [("a", "b"), ("b", "c")])), True)
        self.assertIs(is_floor(answers, theory, ([("a",)], [("a", "b"), ("c",)])), False)
        for thing in [*any_values(), (), [], ((), ()), [[], []], answers, ABC, 0, ["a", "b"]]:
            self.assertIs(is_floor(answers, theory, thing), False)
            self.assertIs(is_floor(answers, theory, (thing, [])), thing == [])
            self.assertIs(is_floor(answers, theory, ([], thing)), thing == [])
            self.assertIs(is_floor(answers, theory, ([thing], [])), False)
            self.assertIs(is_floor(answers, theory, ([], [thing])), False)
            self.assertIs(is_floor(answers, theory, ([], [("a", "b"), thing])), False)


if __name__ == "__main__":
    unittest.main()
