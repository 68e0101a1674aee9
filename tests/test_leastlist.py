"""[40], and [6] as far as it speaks of the list and of how few rows it has."""

import random
import unittest
from itertools import combinations

from tests.plain import ABC, ABCD, TEN, any_values, closing_by, keeps, lot_lists, lots_within, row_lists, some_lot
from tests.plain import some_rows
from thesesothose.leastlist import gives, is_least, least_list, needers, needy_lots
from thesesothose.rules import Rules
from thesesothose.tables import Table


def theories():
    return [Rules(*pair) for pair in row_lists()] + [Table(*pair) for pair in lot_lists()]


def some_known(theory, seed):
    """Rules of a theory: some of what follows from some lots."""
    chance = random.Random(seed)
    aheads = [some_lot(chance, theory.marks) for _ in range(2)]
    return Rules(theory.marks, [(ahead, some_lot(chance, closing_by(theory, ahead))) for ahead in aheads])


def with_known():
    """Theories with known Rules, or with None."""
    pairs = [(theory, None) for theory in theories()]
    return pairs + [(theory, some_known(theory, seed)) for seed, theory in enumerate(theories() * 2)]


def known_rows(known):
    return known.rows() if known is not None else []


def needy_by_words(theory, known):
    needy = []
    for lot in lots_within(theory.marks):
        before = [other for other in needy if set(other) < set(lot)]
        if not all(keeps(lot, row) for row in known_rows(known)) or closing_by(theory, lot) == lot:
            continue
        if all(set(closing_by(theory, other)) <= set(lot) for other in before):
            needy.append(lot)
    return needy


def rows_give(theory, rows):
    """Whether just the closed lots of the theory keep all rows, by trying all lots."""
    return all(all(keeps(lot, row) for row in rows) == (closing_by(theory, lot) == lot)
               for lot in lots_within(theory.marks))


class TestNeedyLots(unittest.TestCase):

    def test_by_words(self):
        for theory, known in with_known():
            self.assertEqual(needy_lots(theory, known=known), needy_by_words(theory, known))

    def test_known_left_out(self):
        for theory in theories():
            told = needy_lots(theory)
            self.assertEqual(needy_lots(theory, known=None), told)
            self.assertEqual(needy_lots(theory, known=Rules(theory.marks, [])), told)

    def test_some(self):
        self.assertEqual(needy_lots(Rules(ABC, [])), [])
        self.assertEqual(needy_lots(Rules((), [])), [])
        self.assertEqual(needy_lots(Table(ABC, [])), [()])
        self.assertEqual(needy_lots(Table(ABC, [()])), [("a",), ("b",), ("c",)])
        self.assertEqual(needy_lots(Rules(ABC, [((), ("a",)), (("b",), ("c",))])), [(), ("a", "b")])

    def test_all_is_known(self):
        for theory in theories():
            self.assertEqual(needy_lots(theory, known=least_list(theory)), [])
            self.assertEqual(least_list(theory, known=least_list(theory)).rows(), [])


class TestLeastList(unittest.TestCase):

    def test_its_rows(self):
        for theory, known in with_known():
            told = least_list(theory, known=known)
            self.assertIsInstance(told, Rules)
            self.assertEqual(told.marks, theory.marks)
            rows = [(lot, tuple(mark for mark in closing_by(theory, lot) if mark not in lot))
                    for lot in needy_by_words(theory, known)]
            self.assertEqual(told.rows(), rows)

    def test_it_gives_the_theory_and_needs_each_row(self):
        for theory, known in with_known():
            rows = least_list(theory, known=known).rows()
            self.assertTrue(rows_give(theory, known_rows(known) + rows))
            for index in range(len(rows)):
                self.assertFalse(rows_give(theory, known_rows(known) + rows[:index] + rows[index + 1:]))

    def test_no_fewer_rows_give_the_theory(self):
        # To try the rules with all behind is enough: others keep more lots.
        for theory, known in with_known():
            if len(theory.marks) > 3:
                continue
            full = [(lot, closing_by(theory, lot)) for lot in lots_within(theory.marks) if closing_by(theory, lot) != lot]
            for many in range(len(least_list(theory, known=known))):
                for rows in combinations(full, many):
                    self.assertFalse(rows_give(theory, [*known_rows(known), *rows]))

    def test_known_left_out(self):
        for theory in theories():
            self.assertEqual(least_list(theory), least_list(theory, known=None))
            self.assertEqual(least_list(theory), least_list(theory, known=Rules(theory.marks, [])))

    def test_ten_marks(self):
        chance = random.Random(40)
        rules = Rules(TEN, some_rows(chance, TEN, 30))
        told = least_list(rules)
        self.assertTrue(gives(rules, told))
        self.assertFalse(any(gives(rules, told.without(index)) for index in range(len(told))))
        half = [lot for lot in lots_within(TEN) if len(lot) == 5]
        self.assertEqual(needy_lots(Rules(TEN, [(lot, TEN) for lot in half])), half)


class TestGives(unittest.TestCase):

    def test_by_trying_all_lots(self):
        chance = random.Random(6)
        seen = []
        for theory, known in with_known():
            least = least_list(theory, known=known).rows()
            others = [least, least[:-1], least[1:], least + [(theory.marks[:1], theory.marks)], []]
            others += [some_rows(chance, theory.marks, many) for many in (1, 2, 3)]
            for rows in others:
                told = gives(theory, Rules(theory.marks, rows), known=known)
                self.assertIs(told, rows_give(theory, known_rows(known) + rows))
                seen.append(told)
        self.assertEqual({True, False}, set(seen))

    def test_known_left_out(self):
        rules = Rules(ABC, [(("a",), ("b",)), (("b",), ("c",))])
        self.assertIs(gives(rules, rules), True)
        self.assertIs(gives(rules, rules, known=None), True)
        self.assertIs(gives(rules, rules.without(0)), False)
        self.assertIs(gives(rules, rules.without(0), known=rules.without(1)), True)
        self.assertIs(gives(rules, Rules(ABC, []), known=rules), True)

    def test_too_much_does_not_give(self):
        self.assertIs(gives(Rules(ABC, []), Rules(ABC, [(("a",), ("b",))])), False)


class TestNeeders(unittest.TestCase):

    def test_by_words(self):
        for theory, known in with_known():
            for other in [least_list(theory), some_known(theory, 7), Rules(theory.marks, [])]:
                told = needers(theory, other, known=known)
                rows = other.rows()
                needy = needy_by_words(theory, known)
                self.assertEqual(list(told), needy)
                for lot in needy:
                    self.assertEqual(told[lot], [k for k in range(len(rows)) if not keeps(lot, rows[k])])

    def test_of_what_gives_the_theory(self):
        for theory, known in with_known():
            full = [(lot, closing_by(theory, lot)) for lot in lots_within(theory.marks)[::-1]]
            lists = list(needers(theory, Rules(theory.marks, full), known=known).values())
            self.assertTrue(all(lists))
            indexes = [index for indexes in lists for index in indexes]
            self.assertEqual(len(indexes), len(set(indexes)))

    def test_what_is_returned_may_be_changed(self):
        rules = Rules(ABC, [(("a",), ("b",)), (("b",), ("c",))])
        told = needers(rules, Rules(ABC, []))
        self.assertEqual(told, {("a",): [], ("b",): []})
        told[("a",)].append(1)
        self.assertEqual(told, {("a",): [1], ("b",): []})
        for call in (needy_lots, lambda theory: least_list(theory).rows()):
            first = call(rules)
            call(rules).clear()
            self.assertEqual(call(rules), first)


class TestIsLeast(unittest.TestCase):

    def test_the_list_is(self):
        for theory, known in with_known():
            rows = least_list(theory, known=known).rows()
            self.assertIs(is_least(theory, rows, known=known), True)
            self.assertIs(is_least(theory, rows[::-1], known=known), True)
            self.assertIs(is_least(theory, tuple(rows), known=known), False)
            self.assertIs(is_least(theory, [*rows, ((), ())], known=known), False)
            if rows:
                self.assertIs(is_least(theory, rows[1:], known=known), False)
                self.assertIs(is_least(theory, [*rows[1:], ((), ())], known=known), False)

    def test_others_with_as_many_rows(self):
        rules = Rules(ABC, [(("a",), ("b",)), (("a", "b"), ("c",))])
        self.assertEqual(least_list(rules).rows(), [(("a",), ("b", "c"))])
        for rows in [[(("a",), ABC)], [(("a",), ("b", "c"))]]:
            self.assertIs(is_least(rules, rows), True)
        for rows in [[], [(("a",), ("b",))], rules.rows(), [(("a",), ABC), (("a",), ABC)], [((), ABC)],
                     [(("a", "b"), ("c",))], [(("a", "c"), ABC)]]:
            self.assertIs(is_least(rules, rows), False)

    def test_rules_that_the_theory_has_not(self):
        theory = Rules(ABC, [(("a",), ("b",)), (("b",), ("a",))])
        self.assertIs(is_least(theory, [(("a",), ("b",)), (("b",), ("a",))]), True)
        self.assertIs(is_least(theory, [(("a",), ("b",)), (("c",), ("a",))]), False)
        self.assertIs(is_least(theory, [(("a",), ("b",)), (("b",), ("a", "c"))]), False)

    def test_known(self):
        rules = Rules(ABC, [(("a",), ("b",)), (("b",), ("c",))])
        known = rules.without(1)
        self.assertIs(is_least(rules, rules.rows()), True)
        self.assertIs(is_least(rules, rules.rows(), known=known), False)
        self.assertIs(is_least(rules, [(("b",), ("c",))], known=known), True)
        self.assertIs(is_least(rules, [(("b",), ("c",))], known=None), False)
        self.assertIs(is_least(rules, [], known=rules), True)

    def test_any_value(self):
        for theory in [Rules(ABC, [(("a",), ("b",))]), Table(ABC, [("b",), ABC]), Rules(ABC, []), Table(ABCD, [])]:
            rows = least_list(theory).rows()
            for thing in [*any_values(), (), theory, rows[:1] + [[]], [(("a",), ("d", "e"))], [(("e",), ())]]:
                self.assertIs(is_least(theory, thing), False)
                self.assertIs(is_least(theory, [thing]), False)
                self.assertIs(is_least(theory, [*rows, thing]), False)
                self.assertIs(is_least(theory, [*rows[1:], thing]), False)


if __name__ == "__main__":
    unittest.main()
