"""[70], with [10]."""

import unittest
from itertools import combinations

from tests.plain import ABC, ABCD, TEN, any_values, clash_lists, closing_by_rows, tables_that_fit
from tests.test_answers import made
from thesesothose.blame import are_apart_sets, clashes, clashes_of, fewest_wrong, is_clash, is_repair, maybe_wrong, repairs
from thesesothose.blame import surely_wrong, wrong_things
from thesesothose.errors import NoThing
from thesesothose.rules import Rules

ROWS = [(("a",), ("b",)), (("b",), ("c",)), (("a",), ("c",))]
BAD = made(ABC, ROWS, [(("a",), ("c",)), ((), ()), (("b",), ("c",))])
FINE = made(ABC, ROWS, [(("a",), ()), ((), ("c",))])


def sets_of(many):
    """All sets of so many indexes, in order."""
    return [some for size in range(many + 1) for some in combinations(range(many), size)]


def least_among(sets):
    return [one for one in sets if not any(set(other) < set(one) for other in sets)]


def clashes_alone(marks, rows, things, some):
    chosen = [rows[index] for index in some]
    return any(set(closing_by_rows(marks, chosen, has)) & set(lacks) for has, lacks in things)


def clashes_by_words(marks, rows, things):
    return least_among([some for some in sets_of(len(rows)) if clashes_alone(marks, rows, things, some)])


def repairs_by_words(marks, rows, things):
    every = range(len(rows))
    return least_among([some for some in sets_of(len(rows))
                        if not clashes_alone(marks, rows, things, [index for index in every if index not in some])])


def otherwise(some):
    """What is like a set, but not told as one."""
    values = [list(some), tuple(str(index) for index in some), tuple(bool(index) for index in some), set(some), (some,)]
    values += [some + (99,), some + (-1,), some + some[-1:], some[:1] + some, some[::-1], some + (None,), some + ("a",)]
    return [value for value in values if type(value) is not tuple or value != some or any(part is True for part in value)]


class TestClashes(unittest.TestCase):

    def test_by_trying_all_sets(self):
        seen = []
        for marks, rows, things in clash_lists():
            told = clashes(made(marks, rows, things))
            self.assertEqual(told, clashes_by_words(marks, rows, things))
            seen.extend(len(some) for some in told)
            seen.append(("many", len(told)))
        self.assertTrue({1, 2, ("many", 0), ("many", 2)} <= set(seen))

    def test_they_are_those_with_which_no_table_fits(self):
        for marks, rows, things in clash_lists():
            if len(marks) > 3 or len(rows) > 3:
                continue
            bad = [some for some in sets_of(len(rows)) if not tables_that_fit(marks, [rows[index] for index in some], things)]
            self.assertEqual(clashes(made(marks, rows, things)), least_among(bad))

    def test_of_one_thing(self):
        for marks, rows, things in clash_lists():
            answers = made(marks, rows, things)
            for number, thing in enumerate(things):
                self.assertEqual(clashes_of(answers, number), clashes_by_words(marks, rows, [thing]))

    def test_of_no_thing(self):
        for answers in [BAD, FINE, made(ABC, ROWS, [])]:
            for number in [*any_values(), 3, 4, (), [], [0], (0,), "0", BAD]:
                with self.assertRaises(NoThing) as caught:
                    clashes_of(answers, number)
                self.assertIs(caught.exception.number, number)

    def test_answers_that_stand(self):
        for answers in [FINE, made(ABC, [], []), made(ABC, [((), ABC)], []), made(ABC, [], [((), ABC)])]:
            self.assertEqual([clashes(answers), repairs(answers), fewest_wrong(answers)], [[], [()], ()])
            self.assertEqual([surely_wrong(answers), maybe_wrong(answers), wrong_things(answers)], [[], [], []])
        self.assertEqual([clashes_of(FINE, 0), clashes_of(FINE, 1)], [[], []])

    def test_rows_that_stand_twice(self):
        answers = made(ABC, [ROWS[0], ROWS[1], ROWS[0]], [(("a",), ("c",))])
        self.assertEqual([clashes(answers), repairs(answers)], [[(0, 1), (1, 2)], [(1,), (0, 2)]])
        self.assertEqual([surely_wrong(answers), maybe_wrong(answers), fewest_wrong(answers)], [[], [0, 1, 2], (1,)])
        twice = made(ABC, [((), ("a",))] * 2, [((), ("a",))])
        self.assertEqual([clashes(twice), repairs(twice), surely_wrong(twice)], [[(0,), (1,)], [(0, 1)], [0, 1]])

    def test_eight_yeses_and_eight_things(self):
        rows = [((mark,), (mark_behind,)) for mark, mark_behind in zip(TEN, TEN[1:9])]
        answers = made(TEN, rows, [((mark,), ("i",)) for mark in TEN[:8]])
        self.assertEqual([clashes(answers), repairs(answers)], [[(7,)], [(7,)]])
        self.assertEqual([clashes_of(answers, 0), wrong_things(answers)], [[tuple(range(8))], list(range(8))])

    def test_what_is_returned_may_be_changed(self):
        for call in [clashes, repairs, surely_wrong, maybe_wrong, wrong_things, lambda answers: clashes_of(answers, 0)]:
            told = call(BAD)
            call(BAD).clear()
            self.assertEqual(call(BAD), told)


class TestRepairs(unittest.TestCase):

    def test_by_trying_all_sets(self):
        seen = []
        for marks, rows, things in clash_lists():
            told = repairs(made(marks, rows, things))
            self.assertEqual(told, repairs_by_words(marks, rows, things))
            seen.extend(len(some) for some in told)
        self.assertTrue({0, 1, 2} <= set(seen))

    def test_repairs_meet_each_clash_and_the_other_way_about(self):
        for triple in clash_lists():
            answers = made(*triple)
            for one, other in [(clashes(answers), repairs(answers)), (repairs(answers), clashes(answers))]:
                every = sets_of(len(triple[1]))
                self.assertEqual(one, least_among([some for some in every if all(set(some) & set(part) for part in other)]))

    def test_what_is_wrong(self):
        for marks, rows, things in clash_lists():
            answers = made(marks, rows, things)
            sets = repairs_by_words(marks, rows, things)
            every = range(len(rows))
            self.assertEqual(surely_wrong(answers), [index for index in every if all(index in some for some in sets)])
            self.assertEqual(maybe_wrong(answers), [index for index in every if any(index in some for some in sets)])
            self.assertEqual(fewest_wrong(answers), sets[0])
            bad = [number for number, (has, lacks) in enumerate(things) if set(closing_by_rows(marks, rows, has)) & set(lacks)]
            self.assertEqual(wrong_things(answers), bad)

    def test_some(self):
        self.assertEqual([clashes(BAD), repairs(BAD)], [[(1,), (2,)], [(1, 2)]])
        self.assertEqual([surely_wrong(BAD), maybe_wrong(BAD), fewest_wrong(BAD), wrong_things(BAD)], [[1, 2], [1, 2], (1, 2), [0, 2]])
        one = made(ABC, ROWS, [(("a",), ("c",))])
        self.assertEqual([clashes(one), repairs(one)], [[(2,), (0, 1)], [(0, 2), (1, 2)]])
        self.assertEqual([surely_wrong(one), maybe_wrong(one), fewest_wrong(one)], [[2], [0, 1, 2], (0, 2)])


class TestAnyValue(unittest.TestCase):

    def test_is_clash_and_is_repair_by_trying_all_sets(self):
        for triple in clash_lists():
            answers = made(*triple)
            for some in sets_of(len(triple[1])):
                self.assertIs(is_clash(answers, some), some in clashes_by_words(*triple))
                self.assertIs(is_repair(answers, some), some in repairs_by_words(*triple))

    def test_sets_told_otherwise(self):
        for answers in [BAD, made(ABC, ROWS, [(("a",), ("c",))]), made(ABC, [((), ("a",))] * 2, [((), ("a",))])]:
            for some in clashes(answers):
                self.assertIs(is_clash(answers, some), True)
                self.assertEqual([thing for thing in otherwise(some) if is_clash(answers, thing)], [])
            for some in repairs(answers):
                self.assertIs(is_repair(answers, some), True)
                self.assertEqual([thing for thing in otherwise(some) if is_repair(answers, thing)], [])

    def test_truths_for_numbers(self):
        self.assertEqual([is_clash(BAD, (1,)), is_clash(BAD, (True,))], [True, False])
        one = made(ABC, ROWS, [(("a",), ("c",))])
        self.assertEqual([is_clash(one, (0, 1)), is_clash(one, (False, True)), is_clash(one, (0, True))], [True, False, False])
        self.assertEqual([is_repair(one, (1, 2)), is_repair(one, (True, 2)), is_repair(one, (2, 1))], [True, False, False])
        self.assertEqual([are_apart_sets(one, [(0, 1)]), are_apart_sets(one, [(0, True)])], [True, False])

    def test_any_value(self):
        for answers in [made(ABC, ROWS, [(("a",), ("b",))]), FINE, made(ABC, [], [])]:
            for thing in [*any_values(), [], [()], ((),), (2,), (-1,), (3,), 0, 1, BAD, [0], (0, 3), "0", ["0"], Rules(ABC, [])]:
                self.assertIs(is_clash(answers, thing), False)
                self.assertIs(is_repair(answers, thing), False)
            for thing in [*any_values(), (), ((1,),), (0,), 0, 1, BAD, [0], [1], [[1]], [[]], [()], [(3,)], [(-1,)], ["1"],
                          [(1,), 2], [(True,)], Rules(ABC, [])]:
                self.assertIs(are_apart_sets(answers, thing), False)
        self.assertEqual([is_clash(FINE, ()), is_repair(FINE, ())], [False, True])

    def test_are_apart_sets_by_words(self):
        for marks, rows, things in clash_lists():
            if len(rows) > 4:
                continue
            answers = made(marks, rows, things)
            every = sets_of(len(rows))
            for some in [[], *[[one] for one in every], *[[one, other] for one in every for other in every]]:
                indexes = [index for part in some for index in part]
                told = len(indexes) == len(set(indexes)) and all(clashes_alone(marks, rows, things, part) for part in some)
                self.assertIs(are_apart_sets(answers, some), told)
                if told:
                    self.assertLessEqual(len(some), len(fewest_wrong(answers)))

    def test_apart_sets(self):
        rows = [((), ("a",)), ((), ("b",)), (("b",), ("c",)), ((), ("d",))]
        answers = made(ABCD, rows, [((), ("a",)), ((), ("c",))])
        for thing in [[], [(0,)], [(1, 2)], [(0,), (1, 2)], [(1, 2), (0,)], [(0, 3), (1, 2)], [(0, 1, 2, 3)]]:
            self.assertIs(are_apart_sets(answers, thing), True)
        for thing in [[(3,)], [(0,), (0,)], [(0,), (0, 3)], [(0,), (1,)], [(0,), (2, 1)], [(0, 0)], [(0,), [1, 2]], ((0,),),
                      [(False,)], [(0,), ()], [(0,), (1, 2), (3,)], [(0, 4)]]:
            self.assertIs(are_apart_sets(answers, thing), False)


if __name__ == "__main__":
    unittest.main()
