"""[71]."""

import random
import unittest
from itertools import combinations

from tests.plain import ABC, ABCD, any_values, answers_lists, clash_lists, closing_by_rows, fits, keeps, lots_within
from tests.plain import some_thing, tables_that_fit
from tests.test_answers import clashing, made
from tests.test_blame import sets_of
from thesesothose.errors import Clash
from thesesothose.parts import can_be_one, crowd, fewest_lots, greatest_ones, is_crowd, is_parting, least_table, parting
from thesesothose.tables import Table

ROWS = [(("a", "b", "c"), ("d",))]
FEW = made(ABCD, ROWS, [(("a",), ("d",)), (("b",), ()), (("c",), ())])
TRIANGLE = made(("a", "b", "c"), [], [(("a",), ("b",)), (("b",), ("c",)), (("c",), ("a",)), ((), ())])


def triples():
    """Triples of marks, rows and things, those of clash_lists and some with more things."""
    chance = random.Random(71)
    drawn = clash_lists()
    for marks in [ABC, ABCD]:
        for many in (4, 5, 6):
            for rows in [[], [(marks[:2], marks[2:3])], [(marks[:2], marks[2:3]), (marks[2:], marks[1:2])]]:
                drawn.append((marks, rows, [some_thing(chance, marks) for _ in range(many)]))
    return drawn


def standing():
    return [triple for triple in triples() if made(*triple).stands()]


def one_lot_fits(marks, rows, things, numbers):
    """Whether a closed lot fits some things, by trying all."""
    lots = [lot for lot in lots_within(marks) if all(keeps(lot, row) for row in rows)]
    return any(all(fits(lot, things[number]) for number in numbers) for lot in lots)


def partitions(numbers):
    """All lists of sets that have each number once."""
    if not numbers:
        return [[]]
    lists = []
    for sets in partitions(numbers[1:]):
        lists.append([numbers[:1], *sets])
        lists += [[*sets[:at], numbers[:1] + sets[at], *sets[at + 1:]] for at in range(len(sets))]
    return lists


def fewest_by_words(marks, rows, things):
    able = {some: one_lot_fits(marks, rows, things, some) for some in sets_of(len(things))}
    lists = [sets for sets in partitions(tuple(range(len(things)))) if all(able[some] for some in sets)]
    return min(len(sets) for sets in lists)


class TestCanBeOne(unittest.TestCase):

    def test_by_trying_all_lots(self):
        seen = []
        for marks, rows, things in triples():
            answers = made(marks, rows, things)
            for some in sets_of(len(things)):
                told = one_lot_fits(marks, rows, things, some)
                self.assertIs(can_be_one(answers, some), told)
                self.assertIs(can_be_one(answers, [*some, *some[::-1]]), told)
                seen.append(told)
        self.assertEqual(set(seen), {True, False})

    def test_none_and_several_times(self):
        for answers in [FEW, TRIANGLE, made(ABC, [((), ABC)], [((), ("a",))]), made(ABC, [], [])]:
            self.assertIs(can_be_one(answers, []), True)
            self.assertIs(can_be_one(answers, ()), True)
        self.assertEqual([can_be_one(FEW, [1, 1, 1]), can_be_one(FEW, (0, 1, 0)), can_be_one(FEW, [2, 1, 0])], [True, True, False])
        self.assertEqual([can_be_one(TRIANGLE, [0, 1]), can_be_one(TRIANGLE, [3, 1])], [False, True])

    def test_greatest_ones(self):
        for marks, rows, things in triples():
            able = [some for some in sets_of(len(things)) if one_lot_fits(marks, rows, things, some)]
            greatest = [one for one in able if not any(set(one) < set(other) for other in able)]
            self.assertEqual(greatest_ones(made(marks, rows, things)), greatest)

    def test_greatest_ones_of_none(self):
        self.assertEqual(greatest_ones(made(ABC, [], [])), [()])
        self.assertEqual(greatest_ones(made(ABC, [((), ("a",))], [((), ("a",))])), [()])
        self.assertEqual(greatest_ones(made(ABC, [((), ("a",))], [((), ("a",)), ((), ())])), [(1,)])

    def test_what_is_returned_may_be_changed(self):
        greatest_ones(FEW).clear()
        parting(FEW).clear()
        crowd(FEW).clear()
        self.assertEqual([greatest_ones(FEW), len(parting(FEW)), len(crowd(FEW))], [[(0, 1), (0, 2), (1, 2)], 2, 1])


class TestParting(unittest.TestCase):

    def test_by_trying_all_partings(self):
        seen = []
        for marks, rows, things in standing():
            answers = made(marks, rows, things)
            told = parting(answers)
            self.assertIs(is_parting(answers, told), True)
            self.assertEqual(sorted(number for some in told for number in some), list(range(len(things))))
            self.assertTrue(all(some == tuple(sorted(some)) and one_lot_fits(marks, rows, things, some) for some in told))
            self.assertEqual([len(told), fewest_lots(answers)], [fewest_by_words(marks, rows, things)] * 2)
            seen.append(len(told))
        self.assertTrue({0, 1, 2, 3} <= set(seen))

    def test_the_least_table(self):
        for marks, rows, things in standing():
            told = least_table(made(marks, rows, things))
            self.assertIsInstance(told, Table)
            self.assertEqual([told.marks, len(told)], [marks, fewest_by_words(marks, rows, things)])
            self.assertTrue(all(keeps(lot, row) for lot in told for row in rows))
            self.assertTrue(all(any(fits(lot, thing) for lot in told) for thing in things))
            self.assertIs(told in made(marks, rows, things), True)

    def test_no_table_that_fits_has_fewer_lots(self):
        for marks, rows, things in standing():
            if len(marks) < 4:
                self.assertEqual(fewest_lots(made(marks, rows, things)), min(map(len, tables_that_fit(marks, rows, things))))

    def test_no_things_and_things_that_stand_several_times(self):
        none = made(ABC, [((), ("a",))], [])
        self.assertEqual([parting(none), fewest_lots(none), least_table(none) == Table(ABC, []), crowd(none)], [[], 0, True, []])
        thrice = made(ABC, [(("a",), ("b",))], [(("a",), ("c",))] * 3)
        self.assertEqual([parting(thrice), least_table(thrice).lots(), crowd(thrice)[1:]], [[(0, 1, 2)], [("a", "b")], []])
        twice = made(ABC, [], [(("a",), ("c",)), (("c",), ()), (("a",), ("c",)), (("c",), ())])
        self.assertEqual([sorted(parting(twice)), len(crowd(twice))], [[(0, 2), (1, 3)], 2])

    def test_more_lots_than_a_crowd_has_things(self):
        self.assertEqual([fewest_lots(FEW), len(crowd(FEW)), fewest_lots(TRIANGLE), len(crowd(TRIANGLE))], [2, 1, 3, 3])

    def test_eight_things(self):
        chance = random.Random(8)
        answers = made(ABCD, [], [some_thing(chance, ABCD) for _ in range(8)])
        self.assertEqual(fewest_lots(answers), fewest_by_words(ABCD, [], answers.things()))
        apart = made(ABC, [], [(lot, tuple(mark for mark in ABC if mark not in lot)) for lot in lots_within(ABC)])
        self.assertEqual([fewest_lots(apart), crowd(apart)], [8, list(range(8))])

    def test_is_parting_of_sets(self):
        able = [[(0, 1), (2,)], [(2,), (0, 1)], [(0,), (1, 2)], [(0, 2), (1,)], [(1,), (2,), (0,)], [(2,), (1,), (0,)]]
        for thing in able:
            self.assertIs(is_parting(FEW, thing), True)
        lists = [list(some) for many in range(4) for some in combinations(sets_of(3), many)]
        for thing in lists:
            self.assertIs(is_parting(FEW, thing), sorted(thing) in [sorted(some) for some in able])

    def test_is_parting_of_any_value(self):
        for thing in [*any_values(), (), [(0, 1, 2)], [(0, 1)], [(0, 1), (1, 2)], [(0, 1), (2,), ()], [(0, 1), (2, 2)],
                      [(1, 0), (2,)], [[0, 1], [2]], ((0, 1), (2,)), [(0, 1), 2], [(0, True), (2,)], [(False, 1), (2,)],
                      [(0, 1), (3,)], [(0, 1), (2,), (3,)], [(0, 1), (-1,)], [(0, 1), ("2",)], [0, 1, 2], FEW, [(0, 1), (2,), (2,)],
                      [(0, 1), (2,), None], [(0, 1), (2,), []], "012", [(0, 0, 1), (2,)], [((0, 1), (2,))]]:
            self.assertIs(is_parting(FEW, thing), False)
            self.assertIs(is_parting(FEW, [thing]), False)
        self.assertEqual([is_parting(made(ABC, [], []), thing) for thing in [[], [()], (), [(0,)]]], [True, False, False, False])


class TestCrowd(unittest.TestCase):

    def test_by_trying_all_sets(self):
        seen = []
        for marks, rows, things in standing():
            told = crowd(made(marks, rows, things))
            self.assertIsInstance(told, list)
            self.assertEqual(told, sorted(set(told)))
            able = [some for some in sets_of(len(things)) if self.apart(marks, rows, things, some)]
            self.assertIn(tuple(told), able)
            self.assertEqual(len(told), max(map(len, able)))
            self.assertLessEqual(len(told), fewest_lots(made(marks, rows, things)))
            seen.append(len(told))
        self.assertTrue({0, 1, 2, 3} <= set(seen))

    def apart(self, marks, rows, things, numbers):
        return not any(one_lot_fits(marks, rows, things, pair) for pair in combinations(numbers, 2))

    def test_is_crowd_by_words(self):
        for marks, rows, things in triples():
            answers = made(marks, rows, things)
            for some in sets_of(len(things)):
                told = self.apart(marks, rows, things, some)
                self.assertIs(is_crowd(answers, list(some)), told)
                self.assertIs(is_crowd(answers, list(some[::-1])), told)
                self.assertIs(is_crowd(answers, some), False)
                self.assertIs(is_crowd(answers, [*some, *some[:1]]), told and not some)

    def test_is_crowd_of_any_value(self):
        for thing in [[0, 1], [1, 0], [2, 0, 1], [], [3], [0]]:
            self.assertIs(is_crowd(TRIANGLE, thing), True)
        for thing in [*any_values(), (), (0, 1), [0, 0], [0, 3], [0, 1, 2, 3], [0, True], [True, 0], [False, 1], [False], [4], [-1],
                      ["0"], [[0]], [(0,)], 0, 1, TRIANGLE, [0, None], [0, 1, 0], "01", [0, 4]]:
            self.assertIs(is_crowd(TRIANGLE, thing), False)
        self.assertEqual([is_crowd(made(ABC, [], []), thing) for thing in [[], [0], ()]], [True, False, False])


class TestClash(unittest.TestCase):

    def test_of_four_alone(self):
        self.assertLess(len(clashing()), len(answers_lists()))
        for answers, first in clashing():
            for call in [parting, fewest_lots, least_table, crowd]:
                with self.assertRaises(Clash) as caught:
                    call(answers)
                self.assertEqual(caught.exception.number, first)
            numbers = range(len(answers))
            self.assertIs(can_be_one(answers, [first]), False)
            self.assertIs(is_parting(answers, [(number,) for number in numbers]), False)
            self.assertIs(is_crowd(answers, [first]), True)
            self.assertNotIn(first, [number for some in greatest_ones(answers) for number in some])

    def test_a_thing_that_clashes_can_be_one_with_none(self):
        answers = made(ABC, [(("a",), ("b",))], [(("a",), ("b",)), (("c",), ())])
        self.assertEqual([is_crowd(answers, [0, 1]), is_parting(answers, [(0,), (1,)]), greatest_ones(answers)],
                         [True, False, [(1,)]])
        self.assertEqual(closing_by_rows(ABC, [(("a",), ("b",))], ("a",)), ("a", "b"))


if __name__ == "__main__":
    unittest.main()
