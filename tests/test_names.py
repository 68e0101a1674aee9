"""[11]: marks are exchanged one to one, and all that is told is exchanged likewise, but for what hangs on their order."""

import random
import unittest

from tests.plain import ABC, answers_lists, closing_by, lot_lists, lots_within, row_lists, rules_of, some_lot, some_rows
from tests.plain import some_thing, things_of
from tests.test_wanting import possible
from thesesothose import alike, answers, apart, asking, blame, closed, closing, deriving, exceptions, experts, few, keys
from thesesothose import leastlist, leftsides, lots, papers, parts, renaming, rules, tables, things, together, wanting
from thesesothose.answers import Answers
from thesesothose.rules import Rules
from thesesothose.tables import Table

FOR_ALL = [{"a": "c", "c": "a"}, {"a": "z", "b": "y", "c": "x"}, {"a": "b", "b": "c", "c": "a"},
           {"a": "d", "ab": "c", "abc": "b", "b": "ab", "ba": "a", "c": "abc", "d": "ba"}]


def all_names(marks):
    """The names, each cut to the marks, that lead them to different ones."""
    every = [{mark: names.get(mark, mark) for mark in marks} for names in FOR_ALL]
    return [names for names in every if len(set(names.values())) == len(marks)]


def led(value, names):
    """Any value with the other marks."""
    if isinstance(value, str):
        return names.get(value, value)
    if isinstance(value, tuple) and all(isinstance(part, str) for part in value):
        return tuple(sorted(names.get(part, part) for part in value))
    if isinstance(value, (list, tuple)):
        return type(value)(led(part, names) for part in value)
    if isinstance(value, dict):
        return {led(key, names): led(part, names) for key, part in value.items()}
    if isinstance(value, Rules):
        return Rules(led(value.marks, names), led(value.rows(), names))
    if isinstance(value, Table):
        return Table(led(value.marks, names), led(value.lots(), names))
    if isinstance(value, Answers):
        return Answers(led(value.yeses, names), led(value.things(), names))
    return value


def plainly(value, loosely):
    """A value by what it lists, and loosely without the order of the list."""
    if isinstance(value, Rules):
        return (value.marks, plainly(value.rows(), loosely))
    if isinstance(value, list) and loosely:
        return sorted(value, key=repr)
    return value


class Case(unittest.TestCase):

    def same(self, names, call, *args, loosely=False):
        one, other = led(call(*args), names), call(*[led(arg, names) for arg in args])
        self.assertEqual(plainly(one, loosely), plainly(other, loosely), (call, args, names))

    def loosely(self, names, call, *args):
        self.same(names, call, *args, loosely=True)


def some_rules():
    return [Rules(*pair) for pair in row_lists()]


def some_tables():
    return [Table(*pair) for pair in lot_lists()]


def some_answers():
    return [Answers(Rules(marks, rows), things_told) for marks, rows, things_told in answers_lists()]


def drawn_rules(chance, marks):
    return chance.sample(rules_of(marks), min(6, len(rules_of(marks))))


class TestStages1To4(Case):

    def test_lots_and_rules(self):
        for names in all_names(ABC):
            self.loosely(names, lots.all_lots, ABC)
            for one in lots_within(ABC):
                for other in lots_within(ABC):
                    for call in [lots.joined, lots.common, lots.without, lots.within]:
                        self.same(names, call, one, other)
                for rule in rules_of(ABC):
                    self.same(names, rules.breaks, one, rule)

    def test_closing_and_deriving(self):
        for some in some_rules():
            chance = random.Random(11)
            for names in all_names(some.marks):
                for lot in lots_within(some.marks):
                    for call in [closing.closing, closing.gained, closing.broken, lambda one, two: two in one]:
                        self.same(names, call, some, lot)
                for rule in drawn_rules(chance, some.marks):
                    for call in [closing.follows, deriving.derivation, deriving.shortest, deriving.against]:
                        self.same(names, call, some, rule)
                    indexes = chance.choices(range(len(some)), k=2) if len(some) else []
                    self.same(names, deriving.is_derivation, some, rule, indexes)
                for other in [other for other in some_rules() if other.marks == some.marks]:
                    self.same(names, Rules.follows_from, some, other)
                    self.same(names, lambda one, two: one | two, some, other)

    def test_closed_lots_and_tables(self):
        for theory in some_rules() + some_tables():
            for names in all_names(theory.marks):
                self.loosely(names, closed.closed_lots, theory)
                self.loosely(names, closed.narrow, theory)
                self.same(names, closed.count, theory)
                self.same(names, tables.table_of, theory)
                for lot in lots_within(theory.marks):
                    self.same(names, closed.is_closed, theory, lot)
                    if closing_by(theory, lot) == lot:
                        self.loosely(names, closed.next_ones, theory, lot)
        for table in some_tables():
            for names in all_names(table.marks):
                for lot in lots_within(table.marks):
                    for call in [Table.closing, Table.cut, lambda one, two: two in one, lambda one, two: one + two]:
                        self.same(names, call, table, lot)
                for rule in rules_of(table.marks)[::5]:
                    self.same(names, Table.keeps, table, rule)

    def test_least_lists(self):
        for theory in some_rules() + some_tables():
            chance = random.Random(40)
            ahead = some_lot(chance, theory.marks)
            known = Rules(theory.marks, [(ahead, closing_by(theory, ahead))])
            given = leastlist.least_list(theory)
            needy = leastlist.needy_lots(theory)
            for names in all_names(theory.marks):
                for call in [leastlist.needy_lots, leastlist.least_list]:
                    self.loosely(names, call, theory)
                    self.loosely(names, lambda one, two: call(one, known=two), theory, known)
                self.same(names, leftsides.fewest_ahead, theory)
                self.same(names, lambda one: len(leftsides.lean_list(one)), theory)
                self.loosely(names, leftsides.brought, theory, given)
                for call in [leastlist.gives, leastlist.needers]:
                    self.same(names, call, theory, given)
                    self.same(names, lambda one, two, three: call(one, two, known=three), theory, given, known)
                self.same(names, leastlist.is_least, theory, given.rows())
                self.same(names, leastlist.is_least, theory, known.rows())
                for lot in needy:
                    self.loosely(names, leftsides.left_sides, theory, lot)
                for one in lots_within(theory.marks)[:6]:
                    for other in lots_within(theory.marks)[-6:]:
                        self.same(names, apart.are_apart, theory, one, other)
                        self.same(names, apart.shared_rule, theory, one, other)
                        self.same(names, apart.is_bound, theory, [one, other])


class TestStages5To7(Case):

    def test_things(self):
        for names in all_names(ABC):
            for thing in things_of(ABC):
                self.loosely(names, things.fillings, ABC, thing)
                for call in [things.is_full, things.untold]:
                    self.same(names, call, ABC, thing)
                for lot in lots_within(ABC):
                    self.same(names, things.fits, lot, thing)
                    self.same(names, things.full_thing, ABC, lot)
                for more in things_of(ABC)[::4]:
                    self.same(names, things.told_more, thing, more)

    def test_answers(self):
        for told in some_answers():
            for names in all_names(told.marks):
                self.same(names, Answers.clashing, told)
                self.same(names, Answers.stands, told)
                self.same(names, lambda one: Table(one.marks, [one.yeses(has) for has, _ in one]) in one, told)
                if told.stands():
                    self.loosely(names, Answers.opens, told)
                    self.of_standing_answers(names, told)

    def of_standing_answers(self, names, told):
        chance = random.Random(53)
        for rule in drawn_rules(chance, told.marks):
            for call in [lambda one, two: one[two], papers.holding, papers.failing]:
                self.same(names, call, told, rule)
            # Which mark shows that a rule is refuted hangs on the order of the marks.
            self.same(names, lambda one, two: papers.paper(one, two)[:3], told, rule)
            self.same(names, papers.is_paper, told, rule, papers.paper(told, rule))
        some = drawn_rules(chance, told.marks)[:4]
        self.same(names, together.can_hold, told, some)
        self.same(names, together.barring, told, some)
        for number in range(len(told)):
            self.same(names, together.surely_has, told, number)
            self.same(names, together.surely_lacks, told, number)
            self.same(names, together.may, told, number, some_thing(chance, told.marks))

    def test_wanting_and_asking(self):
        chance = random.Random(60)
        for told, theory in possible()[::3]:
            for names in all_names(theory.marks):
                for call in [wanting.unshown, wanting.questions]:
                    self.loosely(names, call, told, theory)
                self.same(names, wanting.missing, told, theory)
                self.same(names, wanting.is_floor, told, theory, ([], wanting.unshown(told, theory)))
                for lot, _ in closed.narrow(theory):
                    self.loosely(names, wanting.tellings, theory, lot)
                    self.same(names, wanting.shows, theory, some_thing(chance, theory.marks), lot)
                some = drawn_rules(chance, theory.marks)
                self.same(names, lambda one, two, three: asking.put_all(one, experts.Expert(two, "part"), three),
                          told, theory, some)
                for rule in some:
                    for manner in ["part", "least", "first", "last"]:
                        self.same(names, lambda one, two: experts.Expert(one, manner)(two) is None, theory, rule)

    def test_blame_and_parts(self):
        for told in [told for told in some_answers() if len(told) < 5]:
            for names in all_names(told.marks):
                for call in [blame.clashes, blame.repairs, blame.surely_wrong, blame.maybe_wrong, blame.fewest_wrong,
                             blame.wrong_things, parts.greatest_ones]:
                    self.same(names, call, told)
                for number in range(len(told)):
                    self.same(names, blame.clashes_of, told, number)
                self.same(names, parts.can_be_one, told, list(range(len(told))))
                if told.stands():
                    self.same(names, parts.fewest_lots, told)
                    self.same(names, lambda one: len(parts.crowd(one)), told)
                    self.same(names, lambda one: len(parts.least_table(one)), told)
                    self.same(names, parts.is_parting, told, parts.parting(told))
                    self.same(names, parts.is_crowd, told, parts.crowd(told))


class TestStage8(Case):

    def test_keys_and_few(self):
        for some in some_rules():
            for names in all_names(some.marks):
                for call in [keys.keys, keys.independent_lots, few.direct]:
                    self.loosely(names, call, some)
                for call in [few.width, few.is_direct]:
                    self.same(names, call, some)
                for mark in some.marks:
                    self.loosely(names, keys.givers, some, mark)
                for lot in lots_within(some.marks):
                    self.loosely(names, keys.generators, some, lot)
                    self.same(names, keys.is_independent, some, lot)
                    self.same(names, few.once, some, lot)
                for many in range(len(some.marks) + 1):
                    # Which rows do not follow hangs on the order, but not what they give, nor how wide the rows are.
                    self.loosely(names, lambda one: closed.closed_lots(few.few_ahead(one, many)), some)
                    self.same(names, lambda one: few.lot_against(one, many) is None, some)

    def test_exceptions(self):
        for table in some_tables():
            chance = random.Random(82)
            some = Rules(table.marks, some_rows(chance, table.marks, 3))
            for names in all_names(table.marks):
                for rule in some:
                    self.same(names, exceptions.breakers, table, rule)
                    self.same(names, exceptions.exceptions, table, rule)
                self.same(names, exceptions.costs, table, some)
                self.same(names, exceptions.all_breakers, table, some)
                for mark in table.marks:
                    for many in range(3):
                        self.loosely(names, exceptions.holding_but, table, mark, many)

    def test_alike_and_renaming(self):
        for one in some_rules():
            for other in [other for other in some_rules() if other.marks == one.marks]:
                for names in all_names(one.marks):
                    self.same(names, alike.alike, one, other)
                    self.loosely(names, alike.gained_by, one, other)
                    for call in [alike.parting_lot, alike.parting_rule]:
                        self.same(names, lambda here, there: call(here, there) is None, one, other)
                    if len(one.marks) < 4:
                        self.same(names, lambda here, there: renaming.leading(here, there) is None, one, other)
        for some in some_rules():
            for names in all_names(some.marks):
                told = led(renaming.turnings(some), names)
                self.assertCountEqual(told, renaming.turnings(led(some, names)))

    def test_what_is_renamed_by_the_program_is_so_by_the_test(self):
        for names in FOR_ALL:
            for some in some_rules():
                if names in all_names(some.marks):
                    self.assertEqual(renaming.renamed(some, names), led(some, names))
            for table in some_tables():
                if names in all_names(table.marks):
                    self.assertEqual(renaming.table_renamed(table, names).lots(), led(table, names).lots())
            for told in some_answers():
                if names in all_names(told.marks):
                    self.assertEqual(renaming.answers_renamed(told, names), led(told, names))

    def test_what_answers_are_told(self):
        self.assertEqual(answers.Answers, Answers)
        for told in some_answers():
            for names in all_names(told.marks):
                for thing in things_of(told.marks)[::6]:
                    self.same(names, Answers.with_thing, told, thing)
                for rule in rules_of(told.marks)[::9]:
                    self.same(names, Answers.with_yes, told, rule)


if __name__ == "__main__":
    unittest.main()
