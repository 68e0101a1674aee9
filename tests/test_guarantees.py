"""[1] to [11] over the whole program; of [11] tells test_names.py, too, and of the interface test_interface.py."""

import importlib
import random
import unittest
from itertools import combinations, permutations

from tests.plain import ABC, answers_lists, any_values, closed_by, closed_by_rows, closing_by, clash_lists, fits, keeps
from tests.plain import lot_lists, lots_within, narrow_by_words, row_lists, rules_of, some_truth, tables_that_fit, things_of
from tests.test_answers import words_by_trying
from tests.test_book import MORE, NO, NOTHING, YES, done, redone, some_entry
from tests.test_interface import FUNCTIONS, lines_of, signature
from tests.test_names import Case, all_names, some_rules, some_tables
from thesesothose import errors, joins
from thesesothose.answers import Answers
from thesesothose.asking import answered, asked, next_question, put_all
from thesesothose.blame import clashes, repairs, wrong_things
from thesesothose.book import Book, is_entry
from thesesothose.desk import Desk
from thesesothose.errors import Clash, NoEntry, NoRow, NoThing, Refused, TheseError, Wrong
from thesesothose.experts import Expert
from thesesothose.leastlist import gives, least_list, needers, needy_lots
from thesesothose.leftsides import brought, fewest_ahead, lean_list
from thesesothose.notation import show_book, show_rule, show_thing
from thesesothose.papers import failing, holding, paper
from thesesothose.readers import read_book, read_rule
from thesesothose.rules import Rules
from thesesothose.tables import Table
from thesesothose.wanting import missing, questions

MANNERS = ["first", "last", "least", "part"]
AB = ("a", "b")


def chain():
    return Rules(ABC, [(("a",), ("b",)), (("b",), ("c",))])


def table():
    return Table(ABC, [("a", "b"), (), ("b",), ("a", "b")])


def told():
    return Answers(Rules(ABC, [(("a",), ("b",)), (("a",), ("b",))]), [(("a",), ("c",)), ((), ("a",)), (("c",), ("a",))])


def bad():
    return Answers(chain(), [(("a",), ("c",)), ((), ("b",)), (("b",), ("c",))])


def book():
    some = done(ABC, [YES, NO, MORE])
    some.undo()
    return some


def calls():
    """For each function of the interface some lists of arguments, made anew."""
    rule, thing, known = (("a",), ("c",)), (("a",), ("c",)), Rules(ABC, [(("a",), ("b",))])
    theory, possible = chain(), Rules(ABC, [(("a",), ("b",))])
    any_of = [[value] for value in [0, True, "a", (), ("b", "a"), rule, thing, [], None]]
    texts = [["a > b"], ["a / b"], ["."], ["marks a b\na > b"], ["marks a b\na"], ["marks a b\nyes a > b\nthing a / ."],
             ["yes a > b"], ["marks a b\nyes a > b\nstrike yes 0"], [None]]
    given = {
        "is_integer": any_of, "is_mark": any_of, "is_lot": any_of, "is_rule": any_of, "is_thing": any_of,
        "lot_of": [[["b", "a", "b"]], [[]]], "all_lots": [[ABC], [()]], "in_order": [[[ABC, (), ("a",), ()]], [[]]],
        "breaks": [[("a",), rule], [ABC, rule]],
        "derivation": [[theory, rule], [theory, (("c",), ("a",))]], "shortest": [[theory, rule], [theory, (("c",), ("a",))]],
        "is_derivation": [[theory, rule, [0, 1]], [theory, rule, [1]], [theory, rule, None]],
        "number_of": [[theory, ()], [theory, ("a",)]], "lot_at": [[theory, 1], [theory, True], [theory, 9]],
        "gives": [[theory, known], [theory, theory, known]], "needers": [[theory, theory], [theory, theory, known]],
        "is_least": [[theory, theory.rows()], [theory, [], known]], "brought": [[theory, theory], [theory, known]],
        "is_bound": [[theory, [("a",), ("b",)]], [theory, [("a",), ("b",)], known], [theory, None]],
        "left_sides": [[theory, ("a",)], [theory, None], [theory, ("b",), known]],
        "is_full": [[ABC, thing]], "untold": [[ABC, thing]], "full_thing": [[ABC, ("a",)]], "fits": [[("a",), thing]],
        "told_more": [[thing, ((), ("b",))], [thing, (("c",), ())]], "fillings": [[ABC, thing]],
        "is_paper": [[told(), rule, paper(told(), rule)], [told(), rule, None], [bad(), rule, ("sure", [0])]],
        "can_hold": [[told(), [rule, ((), ("b",))]]], "barring": [[told(), [rule, ((), ("b",)), rule]]],
        "may": [[told(), 1, ((), ("b",))], [told(), 3, thing], [bad(), 0, thing]],
        "shows": [[possible, thing, ("a", "b")], [possible, thing, ()]], "tellings": [[possible, ("a", "b")], [possible, None]],
        "is_floor": [[told(), possible, ([], [("b", "c")])], [told(), possible, None]],
        "asked": [[told(), Expert(possible, "least")], [told(), Expert(theory, "first")]],
        "put_all": [[told(), Expert(possible, "part"), [rule, rule]]],
        "answered": [[told(), rule, None], [told(), rule, thing], [bad(), rule, None]],
        "is_clash": [[bad(), (1,)], [bad(), [1]]], "is_repair": [[bad(), (1,)], [bad(), (True,)]],
        "are_apart_sets": [[bad(), [(1,)]], [bad(), [[1]]]],
        "can_be_one": [[bad(), [1]], [bad(), (0, 0)]], "is_parting": [[told(), [(0,), (1, 2)]], [told(), None]],
        "is_crowd": [[told(), [1, 0]], [told(), (0,)]],
        "givers": [[theory, "c"]], "few_ahead": [[theory, 1]], "lot_against": [[theory, 0], [theory, 1]],
        "holding_but": [[table(), "b", 1]], "costs": [[table(), theory]], "all_breakers": [[table(), theory]],
        "lot_led": [[ABC, {"c": "z", "a": "c"}]], "pair_led": [[rule, {"c": "z", "a": "c"}]],
        "renamed": [[theory, {"c": "z", "a": "c"}], [theory, {"c": "a"}]],
        "table_renamed": [[table(), {"c": "z", "a": "c"}], [table(), {"c": "a"}]],
        "answers_renamed": [[told(), {"c": "z", "a": "c"}], [told(), {"c": "a"}]],
        "leading": [[theory, Rules(ABC, [(("c",), ("b",)), (("b",), ("a",))])], [theory, known]], "turnings": [[known]],
        "of_both": [[theory, table()]], "from_both": [[theory, table()]], "beside": [[theory, Table(("x",), [()])], [theory, known]],
        "told_by": [[theory, "z", ("a",)], [table(), "a", ()]], "cut_to": [[theory, ("a", "c")], [table(), ("a",)]],
        "is_entry": [[ABC, YES], [ABC, ("yes", None)], [ABC, None]],
        "show_lot": [[ABC]], "show_rule": [[rule]], "show_thing": [[thing]], "show_rules": [[theory]], "show_table": [[table()]],
        "show_answers": [[told()]], "show_entry": [[YES], [MORE], [NO]], "show_book": [[book()]],
    }
    by_arguments = {
        "theory": [[theory], [table()]], "rules": [[theory]], "answers": [[told()], [bad()]], "text": texts,
        "one, other": [[("a", "b"), ("b", "c")]], "rules, lot": [[theory, ("a",)], [theory, ()]], "rules, rule": [[theory, rule]],
        "theory, thing": [[theory, ABC], [theory, [ABC]]], "theory, lot": [[theory, ABC], [theory, None]],
        "theory, *, known=None": [[theory], [theory, known], [table()]],
        "theory, one, other": [[theory, ("a",), ("b",)], [theory, ("a",), ("a",)]],
        "answers, rule": [[told(), rule], [told(), (("c",), ("b",))], [told(), (("a",), ("b",))], [bad(), rule]],
        "answers, number": [[told(), 0], [told(), 3], [bad(), 0]], "answers, theory": [[told(), possible], [told(), theory]],
        "table, rule": [[table(), rule]],
    }
    for name in ["alike", "parting_lot", "parting_rule", "gained_by"]:
        given[name] = [[theory, known], [theory, theory], [theory, Rules((), [])]]
    for module, listed in lines_of(FUNCTIONS):
        for name, arguments in map(signature, listed):
            function = getattr(importlib.import_module(f"thesesothose.{module}"), name)
            for passed in given[name] if name in given else by_arguments[arguments]:
                yield name, function, arguments, passed


def called(function, arguments, passed):
    """What a call returns, or the error that it raises; a last one behind a star is passed by keyword."""
    positional = [part for part in arguments.split(", *")[0].split(", ") if part]
    try:
        if len(passed) > len(positional):
            return function(*passed[:-1], known=passed[-1])
        return function(*passed)
    except TheseError as error:
        return error


def plainly(value):
    """All that a value tells, with the sorts of all values, and with the orders of dicts."""
    if isinstance(value, (list, tuple)):
        return (type(value).__name__, *[plainly(part) for part in value])
    if isinstance(value, dict):
        return ("dict", *[(plainly(key), plainly(part)) for key, part in value.items()])
    if isinstance(value, Rules):
        return ("Rules", value.marks, plainly(value.rows()))
    if isinstance(value, Table):
        return ("Table", value.marks, plainly(value.lots()))
    if isinstance(value, Answers):
        return ("Answers", plainly(value.yeses), plainly(value.things()))
    if isinstance(value, Expert):
        return ("Expert", plainly(value.theory), value.manner)
    if isinstance(value, Book):
        return ("Book", value.marks, plainly(value.log()), plainly(value.answers), plainly(redone(value)))
    if isinstance(value, TheseError):
        return ("error", type(value).__name__, plainly(vars(value)))
    return (type(value).__name__, value)


def changeable(value):
    """All lists and dicts within a value, each as often as it stands there."""
    parts = list(value.values()) if isinstance(value, dict) else list(value) if isinstance(value, (list, tuple)) else []
    return [value] * isinstance(value, (list, dict)) + [inner for part in parts for inner in changeable(part)]


def some_theories():
    return [theory for theory in [Rules(*pair) for pair in row_lists()] + [Table(*pair) for pair in lot_lists()]
            if len(theory.marks) < 4]


class TestTheWhole(unittest.TestCase):
    """[1]: somebody sees a table, and answers; nobody else sees more of it than these answers."""

    def test_a_desk_finds_what_holds_in_a_hidden_table(self):
        for seed, (marks, lots) in enumerate([pair for pair in lot_lists() if len(pair[0]) < 4]):
            hidden = Table(marks, lots)
            expert, desk = Expert(hidden, MANNERS[seed % 4]), Desk(marks)
            while desk.say("next") != "nothing":
                rule = read_rule(desk.say("next"))
                left = missing(desk.book().answers, hidden)
                self.assertEqual(desk.say(f"ask {show_rule(rule)}"), "open")
                answer = expert(rule)
                if answer is None:
                    desk.say(f"yes {show_rule(rule)}")
                else:
                    desk.say(f"no {show_rule(rule)} : {show_thing(answer)}")
                self.assertIn(missing(desk.book().answers, hidden), [left, left - 1])
            self.assertEqual([desk.say("open"), missing(desk.book().answers, hidden)], ["0", 0])
            self.assertEqual(desk.say("list"), "; ".join(map(show_rule, least_list(hidden))) or "nothing")
            self.assertEqual(desk.book().answers.yeses, least_list(hidden))
            for rule in rules_of(marks):
                holds = all(keeps(lot, rule) for lot in lots)
                self.assertEqual(desk.say(f"ask {show_rule(rule)}"), "sure" if holds else "refuted")
                self.assertTrue(desk.say(f"why {show_rule(rule)}").startswith("sure by" if holds else "refuted by"))
            self.assertEqual(read_book(show_book(desk.book())), desk.book())

    def test_what_is_wrong_is_found(self):
        for marks, rows, things in clash_lists():
            answers, some, refused = Answers(Rules(marks, rows), things), done(marks, [("yes", row) for row in rows]), []
            for number, thing in enumerate(things):
                if thing[1]:
                    try:
                        some.do(("no", thing, thing))
                    except Refused:
                        refused.append(number)
            self.assertEqual([refused, some.answers.stands(), refused == []], [wrong_things(answers), True, answers.stands()])
            for repair in repairs(answers):
                left = [("yes", row) for index, row in enumerate(rows) if index not in repair]
                other = done(marks, left + [("no", thing, thing) for thing in things if thing[1]])
                self.assertIs(other.answers.stands(), True)


class TestDefinitions(unittest.TestCase):
    """[2]."""

    def test_lists_of_lots_are_in_order(self):
        order = {lot: place for place, lot in enumerate(lots_within(ABC))}
        names = ["all_lots", "in_order", "closed_lots", "next_ones", "needy_lots", "left_sides", "fillings", "unshown", "keys",
                 "givers", "generators", "independent_lots", "gained_by", "holding_but"]
        seen = set()
        for name, function, arguments, passed in calls():
            result = called(function, arguments, passed)
            if name in names and isinstance(result, list):
                places = [order[lot] for lot in result]
                self.assertEqual(places, sorted(places), name)
                seen.add(name)
        self.assertEqual(seen, set(names))

    def test_all_lots_that_are_told_are_ascending(self):
        def lots_in(value):
            if isinstance(value, (Rules, Table, Answers)):
                value = [value.marks, list(value), *([value.yeses] if isinstance(value, Answers) else [])]
            if isinstance(value, dict):
                value = list(value)
            if isinstance(value, tuple) and all(isinstance(part, str) for part in value):
                return [value]
            return [lot for part in value for lot in lots_in(part)] if isinstance(value, (list, tuple)) else []
        many = 0
        for name, function, arguments, passed in calls():
            for lot in lots_in(called(function, arguments, passed)):
                self.assertEqual(list(lot), sorted(set(lot)), name)
                many += 1
        self.assertGreater(many, 300)

    def test_the_closing_is_the_closed_lot_within_each_that_holds_it(self):
        for theory in some_theories():
            for lot in lots_within(theory.marks):
                holding_it = [other for other in closed_by(theory) if set(lot) <= set(other)]
                self.assertEqual([theory(lot) in holding_it, all(set(theory(lot)) <= set(other) for other in holding_it)],
                                 [True, True])


class TestWhatIsPassedAndReturned(unittest.TestCase):
    """[3]."""

    def test_each_function_of_the_interface_is_called(self):
        names = {name for name, _, _, _ in calls()}
        self.assertEqual(names, {signature(call)[0] for _, listed in lines_of(FUNCTIONS) for call in listed})

    def test_no_function_changes_what_it_is_passed(self):
        for name, function, arguments, passed in calls():
            before = plainly(passed)
            called(function, arguments, passed)
            self.assertEqual(plainly(passed), before, name)

    def test_equal_arguments_give_equal_results(self):
        for (name, function, arguments, passed), (_, _, _, others) in zip(calls(), calls()):
            one = plainly(called(function, arguments, passed))
            self.assertEqual([plainly(called(function, arguments, passed)), plainly(called(function, arguments, others))],
                             [one, one], name)

    def test_what_is_returned_may_be_changed(self):
        for name, function, arguments, passed in calls():
            result, before = called(function, arguments, passed), plainly(passed)
            value = plainly(result)
            if isinstance(result, TheseError):
                continue
            parts = changeable(result)
            self.assertEqual(len({id(part) for part in parts}), len(parts), name)
            for part in parts:
                part.clear()
            self.assertEqual([plainly(called(function, arguments, passed)), plainly(passed)], [value, before], name)

    def test_truths_are_never_numbers(self):
        for name, function, arguments, passed in calls():
            result = called(function, arguments, passed)
            if name.startswith(("is_", "are_", "can_")) or name in ("may", "shows", "gives", "fits", "within", "follows", "alike"):
                self.assertIn(type(result), (bool, Clash, NoThing), name)
        some = [chain() == chain(), ("a",) in chain(), chain().follows_from(chain()), table().keeps(NOTHING), told().stands(),
                table() in told(), ("a",) in table(), book() == book(), table() == table(), told() == told(), book() == 1]
        self.assertEqual({type(truth) for truth in some}, {bool})

    def test_true_is_never_taken_for_one(self):
        with self.assertRaises(NoRow):
            chain()[True]
        with self.assertRaises(NoRow):
            chain().without(True)
        with self.assertRaises(NoRow):
            table().without(False)
        with self.assertRaises(NoThing):
            told().without_thing(True)
        with self.assertRaises(NoEntry):
            book().past(True)
        with self.assertRaises(Wrong):
            book().do(("strike yes", False))

    def test_keywords(self):
        for _, function, arguments, passed in calls():
            if arguments.endswith("known=None"):
                with self.assertRaises(TypeError):
                    function(*passed[:arguments.count(", ") - 1], None)
        with self.assertRaises(TypeError):
            asked(told(), Expert(chain(), "first"), 5)

    def test_what_is_iterated_over(self):
        self.assertEqual([list(chain()), list(table()), list(told()), list(book())],
                         [chain().rows(), table().lots(), told().things(), book().log()])
        for thing in [Expert(chain(), "first"), Desk(ABC), Clash(1)]:
            with self.assertRaises(TypeError):
                iter(thing)

    def test_dicts_have_their_keys_in_order(self):
        for name, function, arguments, passed in calls():
            result = called(function, arguments, passed)
            for part in changeable(result):
                if isinstance(part, dict):
                    keys = list(part)
                    self.assertEqual(keys, sorted(keys, key=lambda key: (len(key), key) if isinstance(key, tuple) else key), name)


class TestErrors(unittest.TestCase):
    """[4]."""

    def test_direct_subclasses(self):
        kinds = [kind for kind in vars(errors).values() if isinstance(kind, type) and kind is not TheseError]
        self.assertEqual([kind.__bases__ for kind in kinds], [(TheseError,)] * 16)
        self.assertEqual(TheseError.__bases__, (ValueError,))

    def test_wrong_before_any_other_error(self):
        # Callables that accept any values, each with arguments that are as described.
        accepting = [(Rules, [ABC, []]), (chain().with_rows, [[NOTHING]]), (chain().__add__, [NOTHING]), (Table, [ABC, []]),
                     (table().__add__, [()]), (Answers, [chain(), []]), (told().with_yes, [NOTHING]),
                     (told().with_yeses, [chain()]), (told().with_thing, [NOTHING]), (Expert, [chain(), "first"]), (Book, [ABC]),
                     (book().do, [("yes", NOTHING)]), (Desk, [ABC])]
        for value in any_values():
            for call, right in accepting:
                for place in range(len(right)):
                    for others in [right[place + 1:], [None] * (len(right) - place - 1)]:
                        with self.assertRaises(Wrong) as caught:
                            call(*right[:place], value, *others)
                        self.assertEqual([caught.exception.place, type(caught.exception.place)], [place, int])

    def test_nothing_is_changed_by_a_call_that_raises(self):
        some = book()
        acts = [lambda: some.do(None), lambda: some.do(("strike yes", 7)), lambda: some.do(("yes", ((), ABC))), lambda: some.past(9),
                lambda: some.cause(("more", 5, NOTHING)), lambda: some.do(("no", NOTHING, NOTHING))]
        before = plainly(some)
        for act in acts:
            with self.assertRaises(TheseError):
                act()
            self.assertEqual(plainly(some), before)

    def test_fields_are_the_very_objects(self):
        index, many = [1], {"a": 1}
        for act, field, value in [(lambda: chain()[index], "index", index), (lambda: book().past(many), "many", many),
                                  (lambda: told().without_thing(index), "number", index)]:
            with self.assertRaises(TheseError) as caught:
                act()
            self.assertIs(getattr(caught.exception, field), value)
        entry = ("yes", ((), ABC))
        with self.assertRaises(Refused) as caught:
            book().do(entry)
        self.assertIs(caught.exception.answer, entry)


class TestThreeWords(unittest.TestCase):
    """[5]."""

    def test_words_papers_and_tables(self):
        seen = set()
        for marks, rows, things in answers_lists():
            tables = tables_that_fit(marks, rows, things)
            if not tables:
                continue
            answers, yeses = Answers(Rules(marks, rows), things), Rules(marks, rows)
            for rule, word in words_by_trying(marks, rows, things).items():
                here, there = holding(answers, rule), failing(answers, rule)
                self.assertEqual([answers[rule], paper(answers, rule)[0]], [word, word])
                self.assertEqual(word == "sure", set(rule[1]) <= set(yeses(rule[0])))
                self.assertEqual(word == "refuted", not Answers(yeses + rule, things).stands())
                self.assertEqual([here is None, there is None], [word == "refuted", word == "sure"])
                for some in [some for some in (here, there) if some is not None]:
                    self.assertIs(some in answers, True)
                    self.assertTrue(all(any(fits(lot, thing) for lot in some) for thing in things))
                    self.assertEqual(all(keeps(lot, rule) for lot in some), some is here)
                seen.add(word)
        self.assertEqual(seen, {"sure", "refuted", "open"})


class TestTheList(unittest.TestCase):
    """[6]."""

    def test_one_row_for_each_needy_lot_and_no_list_with_fewer(self):
        for theory in some_theories():
            rows = least_list(theory).rows()
            self.assertEqual([ahead for ahead, _ in rows], needy_lots(theory))
            self.assertEqual(closed_by_rows(theory.marks, rows), closed_by(theory))
            full = [(lot, closing_by(theory, lot)) for lot in lots_within(theory.marks) if closing_by(theory, lot) != lot]
            for some in [some for many in range(len(rows)) for some in combinations(full, many)]:
                self.assertNotEqual(closed_by_rows(theory.marks, some), closed_by(theory))

    def test_as_few_rows_and_the_fewest_marks_ahead(self):
        for theory in some_theories():
            lean = lean_list(theory)
            fewest = sum(len(ahead) for ahead, _ in lean)
            self.assertEqual([len(lean), fewest, gives(theory, lean)], [len(needy_lots(theory)), fewest_ahead(theory), True])
            full = [(lot, closing_by(theory, lot)) for lot in lots_within(theory.marks) if closing_by(theory, lot) != lot]
            for many in range(min(len(full), len(lean) + 1) + 1):
                for rows in combinations(full, many):
                    if sum(len(ahead) for ahead, _ in rows) < fewest:
                        self.assertNotEqual(closed_by_rows(theory.marks, rows), closed_by(theory))

    def test_each_row_of_a_list_is_needed_by_what_is_told(self):
        for theory in some_theories():
            full = Rules(theory.marks, [(lot, closing_by(theory, lot)) for lot in lots_within(theory.marks)])
            indexes = [index for some in needers(theory, full).values() for index in some]
            self.assertEqual([len(indexes) == len(set(indexes)), all(needers(theory, full).values())], [True, True])
            self.assertIs(gives(theory, brought(theory, full)), True)


class TestAnswersThatAreMissing(unittest.TestCase):
    """[7], [8] and [9]."""

    def cases(self):
        for seed, theory in enumerate(some_theories()):
            chance = random.Random(seed)
            rows, things = some_truth(chance, theory, chance.randrange(3), chance.randrange(4))
            yield chance, Answers(Rules(theory.marks, rows), things), theory

    def test_the_number(self):
        for _, answers, theory in self.cases():
            shown = [lot for lot, above in narrow_by_words(theory) for has, lacks in answers
                     if closing_by(theory, has) == lot and set(lacks) & (set(above) - set(lot))]
            needy = needy_lots(theory, known=answers.yeses)
            self.assertEqual(missing(answers, theory), len(needy) + len(narrow_by_words(theory)) - len(set(shown)))
            if len(theory.marks) > 2:
                continue
            # No answer, whatever it is, lowers it by more than one.
            true = [rule for rule in rules_of(theory.marks) if set(rule[1]) <= set(closing_by(theory, rule[0]))]
            for further in [answers.with_yes(rule) for rule in true] + [
                    answers.with_thing(thing) for thing in things_of(theory.marks)
                    if not set(closing_by(theory, thing[0])) & set(thing[1])]:
                self.assertIn(missing(further, theory), [missing(answers, theory), missing(answers, theory) - 1])

    def test_any_order_and_whatever_is_told(self):
        for chance, answers, theory in self.cases():
            asked_for = questions(answers, theory)
            self.assertEqual(len(asked_for), missing(answers, theory))
            orders = list(permutations(asked_for)) if len(asked_for) < 4 else [chance.sample(asked_for, len(asked_for))
                                                                              for _ in range(6)]
            for order in orders:
                reached = answers
                for rule in order:
                    left, manner = missing(reached, theory), chance.choice(MANNERS)
                    self.assertEqual(reached[rule], "open")
                    reached = answered(reached, rule, Expert(theory, manner)(rule))
                    self.assertEqual(missing(reached, theory), left - 1)
                self.assertEqual([reached.opens(), missing(reached, theory)], [[], 0])
                self.assertEqual(put_all(answers, Expert(theory, "part"), order)[0].opens(), [])

    def test_who_knows_nothing_gets_just_the_rows_of_the_list(self):
        for theory in some_theories():
            for manner in MANNERS:
                reached, log = asked(Answers(Rules(theory.marks, []), []), Expert(theory, manner))
                self.assertEqual([reached.yeses, next_question(reached)], [least_list(theory), None])
                now = Answers(Rules(theory.marks, []), [])
                for rule, answer in log:
                    self.assertEqual(now[rule], "open")
                    now = answered(now, rule, answer)


class TestWrongYeses(unittest.TestCase):
    """[10]."""

    def test_repairs_and_clashes_meet_each_other(self):
        for marks, rows, things in clash_lists():
            answers = Answers(Rules(marks, rows), things)
            every = [some for many in range(len(rows) + 1) for some in combinations(range(len(rows)), many)]
            for one, other in [(repairs(answers), clashes(answers)), (clashes(answers), repairs(answers))]:
                meeting = [some for some in every if all(set(some) & set(part) for part in other)]
                self.assertEqual(one, [some for some in meeting if not any(set(less) < set(some) for less in meeting)])


class TestNames(Case):
    """[11], of what test_names.py does not speak."""

    def test_joins(self):
        theories = some_rules()[::2] + some_tables()[::2]
        for one in theories:
            for names in all_names(one.marks):
                for lot in lots_within(one.marks)[::3]:
                    self.loosely(names, joins.cut_to, one, lot)
                    self.loosely({**names, "q": "w"}, joins.told_by, one, "q", lot)
                for other in [other for other in theories if other.marks == one.marks][:3]:
                    self.loosely(names, joins.of_both, one, other)
                    self.loosely(names, joins.from_both, one, other)
                self.loosely(names, joins.beside, one, Rules(("p", "q"), [(("p",), ("q",))]))

    def test_books(self):
        for seed in range(20):
            chance = random.Random(seed)
            some = Book(ABC)
            for _ in range(12):
                entry = some_entry(chance, ABC, some.answers)
                for names in all_names(ABC):
                    self.same(names, lambda marks, log, last: raised_by(done(marks, log), last), ABC, some.log(), entry)
                    self.same(names, is_entry, ABC, entry)
                if raised_by(some.copied(), entry) is None:
                    some.do(entry)
            for names in all_names(ABC):
                self.same(names, lambda marks, log: done(marks, log).answers, ABC, some.log())


def raised_by(some, entry):
    """The name of what an entry raises, with the number of the thing that clashes, or None."""
    try:
        some.do(entry)
    except TheseError as error:
        return [type(error).__name__, getattr(error.__cause__, "number", None)]
    return None


if __name__ == "__main__":
    unittest.main()
