"""The examples of the document, as they stand there."""

import doctest
import unittest

OF_22 = """
>>> from thesesothose.lots import all_lots, lot_of
>>> from thesesothose.rules import Rules, breaks
>>> rules = Rules(("a", "b", "c"), [(("a",), ("b",)), (("b", "c"), ("a",))])
>>> [rules(("a",)), rules(("b", "c")), ("b",) in rules, ("a", "c") in rules, len(rules), rules[1]]
[('a', 'b'), ('a', 'b', 'c'), True, False, 2, (('b', 'c'), ('a',))]
>>> [all_lots(("a", "b")), lot_of(["b", "a", "b"]), breaks(("a", "c"), rules[0]), [row[0] for row in rules]]
[[(), ('a',), ('b',), ('a', 'b')], ('a', 'b'), True, [('a',), ('b', 'c')]]
>>> more = rules + (("a", "c"), ("b",))
>>> [rules.without(1).follows_from(rules), rules.follows_from(rules.without(1)), more == rules, more.follows_from(rules)]
[True, False, False, True]
"""

OF_26 = """
>>> from thesesothose.rules import Rules
>>> from thesesothose.closing import broken, follows, gained
>>> from thesesothose.deriving import against, derivation, is_derivation, shortest
>>> rules = Rules(("a", "b", "c", "d"), [(("b",), ("c",)), (("a",), ("b",)), (("c",), ("d",)), (("a",), ("c",))])
>>> [gained(rules, ("a",)), broken(rules, ("a",))]
[[(1, ('a', 'b')), (3, ('a', 'b', 'c')), (2, ('a', 'b', 'c', 'd'))], [1, 3]]
>>> [derivation(rules, (("a",), ("d",))), shortest(rules, (("a",), ("d",))), is_derivation(rules, (("a",), ("d",)), [2, 3])]
[[1, 3, 2], [3, 2], False]
>>> [follows(rules, (("b",), ("d",))), against(rules, (("b",), ("a",)))]
[True, ('b', 'c', 'd')]
"""

OF_32 = """
>>> from thesesothose.closed import closed_lots, count, narrow, next_ones
>>> from thesesothose.tables import Table, table_of
>>> table = Table(("a", "b", "c"), [("a", "b"), ("b", "c"), ("b",), ("a", "b")])
>>> [table(()), table(("a",)), table(("a", "c")), table.keeps((("c",), ("b",))), ("a", "b") in table]
[('b',), ('a', 'b'), ('a', 'b', 'c'), True, True]
>>> [closed_lots(table), narrow(table)]
[[('b',), ('a', 'b'), ('b', 'c'), ('a', 'b', 'c')], [(('a', 'b'), ('a', 'b', 'c')), (('b', 'c'), ('a', 'b', 'c'))]]
>>> [next_ones(table, ("b",)), count(table), table_of(table).lots(), table.cut(("a",)).lots()]
[[('a', 'b'), ('b', 'c')], 4, [('a', 'b'), ('b', 'c')], [('a',), (), (), ('a',)]]
"""

OF_42 = """
>>> from thesesothose.apart import are_apart, is_bound, shared_rule
>>> from thesesothose.leastlist import least_list, needers, needy_lots
>>> from thesesothose.leftsides import brought, fewest_ahead, left_sides
>>> from thesesothose.rules import Rules
>>> some = Rules(("a", "b", "c", "d"), [(("a",), ("b",)), (("b", "c"), ("d",)), (("a", "c"), ("b", "d"))])
>>> [least_list(some).rows(), needers(some, some)]
[[(('a',), ('b',)), (('b', 'c'), ('d',))], {('a',): [0], ('b', 'c'): [1]}]
>>> [needy_lots(some, known=Rules(("a", "b", "c", "d"), [(("a",), ("b",))])), is_bound(some, [("a",), ("b", "c")])]
[[('b', 'c')], True]
>>> [are_apart(some, ("a",), ("a", "c")), shared_rule(some, ("a",), ("a", "c")), fewest_ahead(some)]
[False, (('a',), ('a', 'b')), 3]
>>> [left_sides(some, ("b", "c")), brought(some, some).rows() == least_list(some).rows()]
[[('b', 'c')], True]
"""

OF_53 = """
>>> from thesesothose.rules import Rules
>>> from thesesothose.answers import Answers
>>> from thesesothose.papers import failing, holding, is_paper, paper
>>> from thesesothose.together import barring, can_hold, may, surely_lacks
>>> told = Answers(Rules(("a", "b", "c", "d"), [(("b", "d"), ("c",))]), [(("a",), ("c",))])
>>> [told[(("a",), ("b",))], told[(("a",), ("d",))], told[(("a",), ("b", "d"))], told[(("b", "c", "d"), ("c",))]]
['open', 'open', 'refuted', 'sure']
>>> paper(told, (("a",), ("b", "d")))
('refuted', 0, [], [0], 'c')
>>> [holding(told, (("a",), ("b",))).lots(), failing(told, (("a",), ("b",))).lots()]
[[('a', 'b')], [('a',), ('a',)]]
>>> some_rules = [(("a",), ("b",)), (("a",), ("d",)), (("b",), ("a",))]
>>> [can_hold(told, some_rules[1:]), barring(told, some_rules)]
[True, [[0, 1]]]
>>> more = told.with_thing((("b",), ("c",)))
>>> [surely_lacks(more, 1), may(more, 0, (("b",), ())), may(more, 0, (("b", "d"), ())), len(more.opens()) > 0]
[('c', 'd'), True, False, True]
"""

OF_62 = """
>>> from thesesothose.rules import Rules
>>> from thesesothose.answers import Answers
>>> from thesesothose.asking import asked, next_question, put_all
>>> from thesesothose.experts import Expert
>>> from thesesothose.wanting import missing, questions, tellings, unshown
>>> none_told = Answers(Rules(("a", "b", "c"), []), [])
>>> theory = Rules(("a", "b", "c"), [(("a",), ("b",))])
>>> [unshown(none_told, theory), missing(none_told, theory)]
[[('c',), ('a', 'b'), ('b', 'c')], 4]
>>> questions(none_told, theory)
[(('a',), ('b',)), (('c',), ('b',)), (('a', 'b'), ('c',)), (('b', 'c'), ('a',))]
>>> tellings(theory, ("a", "b"))
[(('a',), ('c',))]
>>> [next_question(none_told), Expert(theory, "least")(((), ("a", "b", "c")))]
[((), ('a', 'b', 'c')), ((), ('a',))]
>>> found, log = asked(none_told, Expert(theory, "first"))
>>> [[rule for rule, answer in log if answer is None], found.yeses.rows(), missing(found, theory)]
[[(('a',), ('b',))], [(('a',), ('b',))], 0]
>>> [len(put_all(none_told, Expert(theory, "part"), questions(none_told, theory))[0].opens()), len(log) > 4]
[0, True]
"""

OF_71 = """
>>> from thesesothose.rules import Rules
>>> from thesesothose.answers import Answers
>>> from thesesothose.blame import clashes, maybe_wrong, repairs, surely_wrong, wrong_things
>>> from thesesothose.parts import can_be_one, crowd, fewest_lots, greatest_ones
>>> bad = Answers(Rules(("a", "b", "c"), [(("a",), ("b",)), (("b",), ("c",))]), [(("a",), ("c",))])
>>> [clashes(bad), repairs(bad), surely_wrong(bad), maybe_wrong(bad), wrong_things(bad)]
[[(0, 1)], [(0,), (1,)], [], [0, 1], [0]]
>>> few = Answers(Rules(("a", "b", "c", "d"), [(("a", "b", "c"), ("d",))]), [(("a",), ("d",)), (("b",), ()), (("c",), ())])
>>> [can_be_one(few, [0, 1]), can_be_one(few, [0, 1, 2]), greatest_ones(few), fewest_lots(few), len(crowd(few))]
[True, False, [(0, 1), (0, 2), (1, 2)], 2, 1]
"""

OF_84 = """
>>> from thesesothose.rules import Rules
>>> from thesesothose.alike import alike, parting_rule
>>> from thesesothose.exceptions import exceptions, holding_but
>>> from thesesothose.few import direct, is_direct, lot_against, width
>>> from thesesothose.keys import generators, givers, is_independent, keys
>>> from thesesothose.renaming import leading, renamed, turnings
>>> from thesesothose.tables import Table
>>> chain = Rules(("a", "b", "c"), [(("a",), ("b",)), (("b",), ("c",))])
>>> [keys(chain), givers(chain, "c"), generators(chain, ("b", "c")), is_independent(chain, ("a", "c"))]
[[('a',)], [('a',), ('b',), ('c',)], [('b',)], False]
>>> [direct(chain).rows(), is_direct(chain), width(chain), lot_against(chain, 0)]
[[(('a',), ('b', 'c')), (('b',), ('c',))], False, 1, ('a',)]
>>> table = Table(("a", "b"), [("a",), ("a", "b"), ("a", "b")])
>>> [exceptions(table, (("a",), ("b",))), holding_but(table, "b", 0), holding_but(table, "b", 1)]
[1, [], [()]]
>>> [alike(chain, direct(chain)), parting_rule(chain, Rules(("a", "b", "c"), chain.rows()[:1]))]
[True, (('a',), ('c',))]
>>> other = renamed(chain, {"a": "c", "c": "a"})
>>> [other.rows(), leading(chain, other), turnings(chain)]
[[(('c',), ('b',)), (('b',), ('a',))], {'a': 'c', 'b': 'b', 'c': 'a'}, [{'a': 'a', 'b': 'b', 'c': 'c'}]]
"""

OF_94 = """
>>> from thesesothose.book import Book
>>> from thesesothose.desk import Desk
>>> desk = Desk(("a", "b", "c"))
>>> [desk.say(line) for line in ["next", "no . > a b c : a b / c", "next", "yes a > b", "why a > b", "why b > c", "open"]]
['. > a b c', '0 yes, 1 things', '. > a b', '1 yes, 1 things', 'sure by 0', 'refuted by 0: at once; to c at once', '6']
>>> [desk.say("list"), desk.say("past 1"), desk.book().cause(("yes", (("b",), ("c",)))), desk.say("undo")]
['a > b', 'marks a b c; thing a b / c', (0, 'c', [1]), 'yes a > b']
"""


class TestExamples(unittest.TestCase):

    def shown(self, text):
        test = doctest.DocTestParser().get_doctest(text, {}, "example", None, 0)
        failures = []
        runner = doctest.DocTestRunner(verbose=False)
        runner.run(test, out=failures.append)
        self.assertGreater(runner.tries, 0)
        self.assertEqual("".join(failures), "")

    def test_of_22(self):
        self.shown(OF_22)

    def test_of_26(self):
        self.shown(OF_26)

    def test_of_32(self):
        self.shown(OF_32)

    def test_of_42(self):
        self.shown(OF_42)

    def test_of_53(self):
        self.shown(OF_53)

    def test_of_62(self):
        self.shown(OF_62)

    def test_of_71(self):
        self.shown(OF_71)

    def test_of_84(self):
        self.shown(OF_84)

    def test_of_94(self):
        self.shown(OF_94)


if __name__ == "__main__":
    unittest.main()
