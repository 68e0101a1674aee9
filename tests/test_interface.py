"""The section "The interface": each name stands in its file, is defined there, and has just these arguments."""

import ast
import importlib
import inspect
import pathlib
import unittest

PACKAGE = pathlib.Path(__file__).resolve().parent.parent / "thesesothose"
FUNCTIONS = """
words: is_integer(thing) is_mark(thing) is_lot(thing) is_rule(thing) is_thing(thing)
lots: lot_of(marks) joined(one, other) common(one, other) without(one, other) all_lots(marks) in_order(lots)
lots: comes_before(one, other) within(one, other)
rules: breaks(lot, rule)
closing: closing(rules, lot) gained(rules, lot) broken(rules, lot) follows(rules, rule)
deriving: derivation(rules, rule) shortest(rules, rule) is_derivation(rules, rule, thing) against(rules, rule)
closed: is_closed(theory, thing) closed_lots(theory) count(theory) number_of(theory, lot) lot_at(theory, number)
closed: next_ones(theory, lot) narrow(theory)
tables: table_of(theory)
leastlist: needy_lots(theory, *, known=None) least_list(theory, *, known=None) gives(theory, other, *, known=None)
leastlist: is_least(theory, thing, *, known=None) needers(theory, other, *, known=None)
apart: are_apart(theory, one, other) is_bound(theory, thing, *, known=None) shared_rule(theory, one, other)
leftsides: left_sides(theory, lot, *, known=None) fewest_ahead(theory, *, known=None) lean_list(theory, *, known=None)
leftsides: brought(theory, other, *, known=None)
things: is_full(marks, thing) fits(lot, thing) untold(marks, thing) full_thing(marks, lot) told_more(thing, more)
things: fillings(marks, thing)
papers: holding(answers, rule) failing(answers, rule) paper(answers, rule) is_paper(answers, rule, thing)
together: can_hold(answers, rules) barring(answers, rules) surely_has(answers, number) surely_lacks(answers, number)
together: may(answers, number, more)
wanting: shows(theory, thing, lot) tellings(theory, lot) unshown(answers, theory) missing(answers, theory)
wanting: questions(answers, theory) is_floor(answers, theory, thing)
asking: next_question(answers) answered(answers, rule, answer) asked(answers, expert, *, most=2000)
asking: put_all(answers, expert, rules)
blame: clashes(answers) repairs(answers) clashes_of(answers, number) surely_wrong(answers) maybe_wrong(answers)
blame: wrong_things(answers) fewest_wrong(answers) is_clash(answers, thing) is_repair(answers, thing)
blame: are_apart_sets(answers, thing)
parts: can_be_one(answers, numbers) greatest_ones(answers) parting(answers) fewest_lots(answers) least_table(answers)
parts: crowd(answers) is_parting(answers, thing) is_crowd(answers, thing)
keys: keys(rules) givers(rules, mark) generators(rules, lot) independent_lots(rules) is_independent(rules, lot)
few: few_ahead(rules, many) direct(rules) lot_against(rules, many) width(rules) once(rules, lot) is_direct(rules)
exceptions: breakers(table, rule) holding_but(table, mark, many) costs(table, rules) all_breakers(table, rules)
exceptions: exceptions(table, rule)
alike: alike(one, other) parting_lot(one, other) parting_rule(one, other) gained_by(one, other)
renaming: lot_led(lot, names) pair_led(pair, names) renamed(rules, names) table_renamed(table, names)
renaming: answers_renamed(answers, names) leading(one, other) turnings(rules)
joins: of_both(one, other) from_both(one, other) beside(one, other) told_by(theory, mark, lot) cut_to(theory, marks)
book: is_entry(marks, thing)
notation: show_lot(lot) show_rule(rule) show_thing(thing) show_rules(rules) show_table(table) show_answers(answers)
notation: show_entry(entry) show_book(book)
readers: read_lot(text) read_rule(text) read_thing(text) read_rules(text) read_table(text) read_answers(text)
readers: read_entry(text) read_book(text)
"""
METHODS = """
rules Rules(marks, rows): rows() closing(lot) follows_from(other) with_rows(rows) without(index)
tables Table(marks, lots): lots() closing(lot) keeps(rule) without(index) cut(marks)
answers Answers(yeses, things): things() clashing() stands() opens() with_yes(rule) with_yeses(rules) with_thing(thing)
answers Answers(yeses, things): without_yes(index) without_thing(number) with_more(number, more)
experts Expert(theory, manner): __call__(rule)
book Book(marks): log() do(entry) cause(entry) undo() redo() past(many) copied() trial(act)
desk Desk(marks): book() say(line)
"""
OPERATORS = {"Rules": "eq len iter contains getitem call add or", "Table": "eq len iter contains call add or",
             "Answers": "eq len iter contains getitem", "Expert": "call", "Book": "eq len iter getitem setitem", "Desk": ""}
PROPERTIES = {"Rules": ["marks"], "Table": ["marks"], "Answers": ["marks", "yeses"], "Expert": ["theory", "manner"],
              "Book": ["marks", "answers"], "Desk": []}


def lines_of(text):
    """Pairs of what stands before the colon, and the list of the calls behind it."""
    pairs = []
    for line in text.strip().split("\n"):
        head, rest = line.split(": ")
        pairs.append((head, [part + ")" for part in rest.split(")")[:-1]]))
    return [(head, [call.strip() for call in calls]) for head, calls in pairs]


def signature(call):
    name, _, rest = call.partition("(")
    return name, rest[:-1]


def told(thing):
    """The arguments of a function or a method, as the document writes them."""
    parameters = [str(parameter) for parameter in inspect.signature(thing).parameters.values()]
    kinds = [parameter.kind for parameter in inspect.signature(thing).parameters.values()]
    if inspect.Parameter.KEYWORD_ONLY in kinds:
        parameters.insert(kinds.index(inspect.Parameter.KEYWORD_ONLY), "*")
    return ", ".join([name for name in parameters if name != "self"])


def defined_in(module):
    tree = ast.parse((PACKAGE / f"{module}.py").read_text())
    return {node.name: node for node in tree.body if isinstance(node, (ast.FunctionDef, ast.ClassDef))}


class TestInterface(unittest.TestCase):

    def test_functions(self):
        count = 0
        for module, calls in lines_of(FUNCTIONS):
            for name, arguments in map(signature, calls):
                function = getattr(importlib.import_module(f"thesesothose.{module}"), name)
                self.assertIn(name, defined_in(module))
                self.assertEqual([told(function), inspect.isfunction(function)], [arguments, True], f"{module} {name}")
                count += 1
        self.assertEqual(count, 134)

    def test_classes(self):
        for head, calls in lines_of(METHODS):
            module, _, made = head.partition(" ")
            name, arguments = signature(made)
            kind = getattr(importlib.import_module(f"thesesothose.{module}"), name)
            self.assertIn(name, defined_in(module))
            self.assertEqual([told(kind), kind.__bases__], [arguments, (object,)])
            for method, taken in map(signature, calls):
                self.assertIn(method, vars(kind))
                self.assertEqual(told(vars(kind)[method]), taken, f"{name} {method}")

    def test_operators_and_properties_of_the_very_class(self):
        for head, _ in lines_of(METHODS):
            module, _, made = head.partition(" ")
            name = signature(made)[0]
            kind = getattr(importlib.import_module(f"thesesothose.{module}"), name)
            own = {node.name for node in defined_in(module)[name].body if isinstance(node, ast.FunctionDef)}
            wanted = {f"__{sign}__" for sign in OPERATORS[name].split()} | {"__init__"}
            self.assertEqual({part for part in own if part.startswith("__")}, wanted)
            self.assertEqual([part for part in vars(kind) if isinstance(vars(kind)[part], property)], PROPERTIES[name])

    def test_nothing_else_is_iterated_over(self):
        for name in ["Expert", "Desk"]:
            module = {"Expert": "experts", "Desk": "desk"}[name]
            kind = getattr(importlib.import_module(f"thesesothose.{module}"), name)
            self.assertFalse(hasattr(kind, "__iter__") or hasattr(kind, "__getitem__") or hasattr(kind, "__len__"))


if __name__ == "__main__":
    unittest.main()
