"""[42], and [6] as far as it speaks of the marks ahead."""

import random
import unittest
from itertools import combinations

from tests.plain import ABC, ABCD, TEN, any_values, closing_by, keeps, lots_within, rules_of, some_rows
from tests.test_leastlist import known_rows, needy_by_words, rows_give, some_known, theories, with_known
from thesesothose.errors import NoLot
from thesesothose.leastlist import gives, least_list, needy_lots
from thesesothose.leftsides import brought, fewest_ahead, lean_list, left_sides
from thesesothose.rules import Rules
from thesesothose.tables import Table


def all_left_sides(theory, lot):
    """All lots within a lot whose closing is not within it."""
    return [side for side in lots_within(lot) if not set(closing_by(theory, side)) <= set(lot)]


def row_from(theory, ahead):
    return (ahead, tuple(mark for mark in closing_by(theory, ahead) if mark not in ahead))


def marks_ahead(rows):
    return sum(len(ahead) for ahead, _ in rows)


class TestLeftSides(unittest.TestCase):

    def test_by_trying_all_lots_within(self):
        for theory, known in with_known():
            for lot in needy_by_words(theory, known):
                sides = all_left_sides(theory, lot)
                least = [side for side in sides if not any(set(other) < set(side) for other in sides)]
                told = left_sides(theory, lot, known=known)
                self.assertEqual(told, least)
                self.assertEqual({closing_by(theory, side) for side in told}, {closing_by(theory, lot)})

    def test_some(self):
        rules = Rules(ABCD, [(("a",), ("b",)), (("c",), ("b",)), (("b",), ("d",))])
        self.assertEqual(left_sides(rules, ("b",)), [("b",)])
        two = Rules(ABCD, [(("a", "b"), ("d",)), (("c",), ("d",))])
        self.assertEqual(left_sides(two, ("a", "b")), [("a", "b")])
        self.assertEqual(left_sides(Table(ABC, []), ()), [()])
        grown = Rules(ABCD, [(("a",), ("b",)), (("b",), ("a",)), (("a", "c"), ("d",)), (("c",), ("b", "d"))])
        self.assertEqual(left_sides(grown, ("c",)), [("c",)])
        self.assertEqual(left_sides(Rules(ABCD, [(("a",), ("b",)), (("b",), ("a",)), (("a", "c"), ("d",))]), ABC),
                         [("a", "c"), ("b", "c")])

    def test_lots_that_are_not_needy(self):
        for theory, known in with_known()[::3]:
            needy = needy_by_words(theory, known)
            for lot in [*lots_within(theory.marks), ("zz",)]:
                if lot not in needy:
                    with self.assertRaises(NoLot) as caught:
                        left_sides(theory, lot, known=known)
                    self.assertIs(caught.exception.lot, lot)

    def test_any_value(self):
        for theory in [Rules(ABC, [(("a",), ("b",))]), Table(ABC, [("b",), ABC]), Rules(ABC, []), Table(ABC, [])]:
            for thing in [*any_values(), [], ["a"], ("d",), ABC, theory, 0, 1, [("a",)], (("a",),)]:
                with self.assertRaises(NoLot) as caught:
                    left_sides(theory, thing)
                self.assertIs(caught.exception.lot, thing)

    def test_what_is_known_takes_needy_lots_away(self):
        rules = Rules(ABC, [(("a",), ("b",)), (("b",), ("c",))])
        self.assertEqual(left_sides(rules, ("a",), known=None), [("a",)])
        with self.assertRaises(NoLot):
            left_sides(rules, ("a",), known=rules.without(1))
        self.assertEqual(left_sides(rules, ("b",), known=rules.without(1)), [("b",)])

    def test_what_is_returned_may_be_changed(self):
        rules = Rules(ABC, [(("a",), ("b",))])
        left_sides(rules, ("a",)).clear()
        self.assertEqual(left_sides(rules, ("a",)), [("a",)])


class TestLeanList(unittest.TestCase):

    def test_by_words(self):
        for theory, known in with_known():
            rows = [row_from(theory, all_left_sides(theory, lot)[0]) for lot in needy_by_words(theory, known)]
            told = lean_list(theory, known=known)
            self.assertIsInstance(told, Rules)
            self.assertEqual([told.marks, told.rows()], [theory.marks, rows])
            self.assertEqual(fewest_ahead(theory, known=known), marks_ahead(rows))

    def test_it_gives_the_theory(self):
        for theory, known in with_known():
            rows = lean_list(theory, known=known).rows()
            self.assertEqual(len(rows), len(needy_lots(theory, known=known)))
            self.assertTrue(rows_give(theory, known_rows(known) + rows))

    def test_no_list_has_fewer_marks_ahead(self):
        # To try the rules with all behind is enough; others keep more lots.
        for theory, known in with_known():
            if len(theory.marks) > 3:
                continue
            full = [row_from(theory, lot) for lot in lots_within(theory.marks) if closing_by(theory, lot) != lot]
            fewest = fewest_ahead(theory, known=known)
            for many in range(len(full) + 1):
                for rows in combinations(full, many):
                    if marks_ahead(rows) < fewest:
                        self.assertFalse(rows_give(theory, [*known_rows(known), *rows]))

    def test_known_left_out(self):
        for theory in theories():
            nothing = Rules(theory.marks, [])
            self.assertEqual(lean_list(theory), lean_list(theory, known=None))
            self.assertEqual(lean_list(theory), lean_list(theory, known=nothing))
            self.assertEqual([fewest_ahead(theory), fewest_ahead(theory, known=None)],
                             [fewest_ahead(theory, known=nothing)] * 2)

    def test_all_is_known(self):
        for theory in theories():
            known = least_list(theory)
            self.assertEqual(lean_list(theory, known=known).rows(), [])
            self.assertEqual(fewest_ahead(theory, known=known), 0)

    def test_ten_marks(self):
        rules = Rules(TEN, some_rows(random.Random(42), TEN, 30))
        told = lean_list(rules)
        self.assertTrue(gives(rules, told))
        self.assertEqual(marks_ahead(told), fewest_ahead(rules))
        self.assertLessEqual(fewest_ahead(rules), marks_ahead(least_list(rules)))


class TestBrought(unittest.TestCase):

    def others(self, theory, known):
        chance = random.Random(len(theory.marks))
        full = [row_from(theory, lot) for lot in lots_within(theory.marks)]
        single = [(ahead, (mark,)) for ahead, behind in full for mark in behind]
        lists = [full, full[::-1], single, chance.sample(single, len(single)), chance.sample(full, len(full) // 2), []]
        lists += [least_list(theory, known=known).rows(), some_known(theory, 4).rows()]
        return [Rules(theory.marks, rows) for rows in lists]

    def test_by_words(self):
        seen = []
        for theory, known in with_known():
            needy = needy_by_words(theory, known)
            for other in self.others(theory, known):
                broken = [[row for row in other.rows() if not keeps(lot, row)] for lot in needy]
                if [] in broken:
                    with self.assertRaises(NoLot) as caught:
                        brought(theory, other, known=known)
                    self.assertEqual(caught.exception.lot, needy[broken.index([])])
                    seen.append(broken.index([]))
                else:
                    told = brought(theory, other, known=known)
                    self.assertIsInstance(told, Rules)
                    self.assertEqual(told.marks, theory.marks)
                    self.assertEqual(told.rows(), [row_from(theory, rows[0][0]) for rows in broken])
                    self.assertTrue(rows_give(theory, known_rows(known) + told.rows()))
        self.assertTrue({0, 1} <= set(seen))

    def test_of_what_gives_the_theory_it_has_no_more_rows_and_no_more_marks_ahead(self):
        for theory in theories():
            rows = [rule for rule in rules_of(theory.marks[:3]) if set(rule[1]) <= set(closing_by(theory, rule[0]))]
            other = Rules(theory.marks, [*rows[::-1], *least_list(theory).rows()])
            told = brought(theory, other)
            self.assertLessEqual(len(told), len(other))
            self.assertLessEqual(fewest_ahead(theory), marks_ahead(told))

    def test_the_lowest_index_counts(self):
        rules = Rules(ABC, [(("a", "b"), ("c",)), (("b", "c"), ("a",)), (("a",), ("b", "c"))])
        self.assertEqual(brought(rules, Rules(ABC, [(("a",), ("c",)), (("a",), ("b",)), (("b", "c"), ("a",))])).rows(),
                         [(("a",), ("b", "c")), (("b", "c"), ("a",))])

    def test_known(self):
        rules = Rules(ABC, [(("a",), ("b",)), (("c",), ("b",))])
        self.assertEqual(brought(rules, rules).rows(), rules.rows())
        self.assertEqual(brought(rules, rules, known=None).rows(), rules.rows())
        self.assertEqual(brought(rules, rules, known=rules.without(0)).rows(), [(("a",), ("b",))])
        self.assertEqual(brought(rules, rules.without(1), known=rules.without(0)).rows(), [(("a",), ("b",))])
        with self.assertRaises(NoLot) as caught:
            brought(rules, rules.without(0), known=rules.without(0))
        self.assertEqual(caught.exception.lot, ("a",))


if __name__ == "__main__":
    unittest.main()
