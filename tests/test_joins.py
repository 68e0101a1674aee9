"""[90]."""

import random
import unittest

from tests.plain import ABC, ABCD, closing_by, lots_within, some_lot, some_rows
from tests.test_leastlist import theories
from thesesothose.errors import NoMark, Unlike
from thesesothose.joins import beside, cut_to, from_both, of_both, told_by
from thesesothose.leastlist import least_list, needy_lots
from thesesothose.rules import Rules
from thesesothose.tables import Table

CHAIN = Rules(ABC, [(("a",), ("b",)), (("b",), ("c",))])


def least_by_words(marks, closing):
    """The rows of the least list of the theory with these closings, told as a dict from all lots."""
    rows = []
    for lot in lots_within(marks):
        before = [other for other, _ in rows if set(other) < set(lot)]
        if closing[lot] != lot and all(set(closing[other]) <= set(lot) for other in before):
            rows.append((lot, tuple(mark for mark in closing[lot] if mark not in lot)))
    return rows


def common(one, other):
    return tuple(mark for mark in one if mark in other)


def pairs():
    """Pairs of theories with the same marks: Rules, Tables, and one of each."""
    chance = random.Random(90)
    found = []
    for one in theories():
        others = [other for other in theories() if other.marks == one.marks]
        found += [(one, other) for other in chance.sample(others, min(4, len(others)))]
    return found


def with_marks(marks):
    """Some theories with these marks."""
    chance = random.Random(len(marks))
    rules = [Rules(marks, some_rows(chance, marks, many)) for many in (0, 1, 2)]
    return rules + [Table(marks, [some_lot(chance, marks) for _ in range(many)]) for many in (0, 1, 3)]


class TestJoins(unittest.TestCase):

    def told(self, told, marks, closing):
        """The result has just these closings, and is the least list."""
        self.assertIsInstance(told, Rules)
        self.assertEqual(told.marks, marks)
        self.assertEqual({lot: told.closing(lot) for lot in lots_within(marks)}, closing)
        self.assertEqual(told.rows(), least_by_words(marks, closing))
        self.assertEqual([needy_lots(told), least_list(told)], [[ahead for ahead, _ in told], told])

    def test_the_pairs_are_of_each_sort(self):
        sorts = {(isinstance(one, Rules), isinstance(other, Rules)) for one, other in pairs()}
        self.assertEqual(sorts, {(True, True), (True, False), (False, True), (False, False)})

    def test_of_both(self):
        for one, other in pairs():
            closing = {lot: common(closing_by(one, lot), closing_by(other, lot)) for lot in lots_within(one.marks)}
            self.told(of_both(one, other), one.marks, closing)

    def test_from_both(self):
        for one, other in pairs():
            lots = lots_within(one.marks)
            closed = [lot for lot in lots if closing_by(one, lot) == lot and closing_by(other, lot) == lot]
            closing = {lot: [above for above in closed if set(lot) <= set(above)][0] for lot in lots}
            self.told(from_both(one, other), one.marks, closing)

    def test_beside(self):
        for marks, other_marks in [(("a", "c"), ("b",)), (ABC, ("aa", "bb")), ((), ("a", "b")), (("b",), ()), ((), ())]:
            both = tuple(sorted(marks + other_marks))
            for one in with_marks(marks):
                for other in with_marks(other_marks):
                    closing = {}
                    for lot in lots_within(both):
                        here, there = closing_by(one, common(lot, marks)), closing_by(other, common(lot, other_marks))
                        closing[lot] = tuple(sorted(here + there))
                    self.told(beside(one, other), both, closing)

    def test_cut_to(self):
        for theory in theories():
            for marks in lots_within(theory.marks):
                closing = {lot: common(closing_by(theory, lot), marks) for lot in lots_within(marks)}
                self.told(cut_to(theory, marks), marks, closing)

    def test_cut_to_all_marks_and_to_none(self):
        for theory in theories():
            self.assertEqual(cut_to(theory, theory.marks), least_list(theory))
            self.assertEqual(cut_to(theory, ()), Rules((), []))

    def test_told_by(self):
        for theory in theories():
            for mark in ["aa", "z", "abcd"]:
                marks = tuple(sorted((*theory.marks, mark)))
                for lot in lots_within(theory.marks)[::3] + [theory.marks]:
                    # A lot is closed if it is so without the mark, and has the mark just if it has all of the lot.
                    closed = [some for some in lots_within(marks) if (mark in some) == (set(lot) <= set(some))
                              and closing_by(theory, common(some, theory.marks)) == common(some, theory.marks)]
                    closing = {some: [above for above in closed if set(some) <= set(above)][0] for some in lots_within(marks)}
                    self.told(told_by(theory, mark, lot), marks, closing)

    def test_told_by_no_marks_and_all(self):
        self.assertEqual(told_by(CHAIN, "z", ()).rows(), [((), ("z",)), (("a", "z"), ("b", "c")), (("b", "z"), ("c",))])
        self.assertEqual(told_by(Rules(ABC, []), "aa", ABC).rows(), [(("aa",), ABC), (ABC, ("aa",))])
        self.assertEqual(told_by(Table((), []), "z", ()), Rules(("z",), [((), ("z",))]))

    def test_some(self):
        other = Rules(ABC, [(("a",), ("c",)), (("c",), ("b",))])
        self.assertEqual(of_both(CHAIN, other).rows(), [(("a",), ("b", "c"))])
        self.assertEqual(from_both(CHAIN, other).rows(), [(("a",), ("b", "c")), (("b",), ("c",)), (("c",), ("b",))])
        self.assertEqual(beside(Rules(("a",), [((), ("a",))]), Table(("b", "c"), [("c",)])).rows(), [((), ("a", "c"))])
        self.assertEqual(cut_to(CHAIN, ("a", "c")).rows(), [(("a",), ("c",))])


class TestErrors(unittest.TestCase):

    def test_unlike(self):
        for marks in [(), ("a", "b"), ABCD, ("a", "b", "d")]:
            for one in [Rules(ABC, []), Table(ABC, []), CHAIN]:
                for other in [Rules(marks, []), Table(marks, [])]:
                    for call in [of_both, from_both]:
                        for two in [(one, other), (other, one)]:
                            with self.assertRaises(Unlike):
                                call(*two)

    def test_the_first_mark_that_both_have(self):
        for one, other, mark in [(ABC, ABC, "a"), (ABC, ("b", "c"), "b"), (("a", "z"), ("b", "z"), "z"), (("b",), ("a", "b"), "b"),
                                 (("ab", "b", "c"), ("a", "aa", "b", "c"), "b")]:
            for two in [(Rules(one, []), Table(other, [])), (Table(other, [()]), Rules(one, [])),
                        (Rules(one, []), Rules(other, []))]:
                with self.assertRaises(NoMark) as caught:
                    beside(*two)
                self.assertEqual(caught.exception.mark, mark)

    def test_a_mark_that_is_there(self):
        for theory in [CHAIN, Table(ABC, [("a",)])]:
            for mark in ABC:
                for lot in [(), ("a",), ABC]:
                    with self.assertRaises(NoMark) as caught:
                        told_by(theory, mark, lot)
                    self.assertEqual(caught.exception.mark, mark)


class TestAskedAgain(unittest.TestCase):

    def test_told_lists_that_are_changed(self):
        one, other = Rules(ABC, CHAIN.rows()), Table(ABC, [("a",), ("b", "c")])
        calls = [lambda: of_both(one, other), lambda: from_both(one, other), lambda: cut_to(one, ("a", "b")),
                 lambda: told_by(other, "z", ("a",)), lambda: beside(one, Table(("x",), [()]))]
        for call in calls:
            told = call()
            rows = told.rows()
            told.rows().clear()
            self.assertEqual([call(), call().rows(), told.rows()], [told, rows, rows])
            self.assertEqual([one, other], [CHAIN, Table(ABC, [("a",), ("b", "c")])])


if __name__ == "__main__":
    unittest.main()
