"""The examples of the document, as they stand there."""

import doctest
import unittest

OF_22 = """
>>> from thesesothose.lots import all_lots, lot_of
>>> from thesesothose.rules import Rules, breaks
>>> rules = Rules(("a", "b", "c"), [(("a",), ("b",)), (("b", "c"), ("a",))])
>>> [rules(("a",)), rules(("b", "c")), ("b",) in rules, ("a", "c") in rules, len(rules), rules[1]]
[('a', 'b'), ('a', 'b', 'c'), True, False, 2, (('b', 'c'), ('a',))]
>>> [all_lots(("a", "b")), lot_of(["b", "a", "b"]), breaks(("a", "c"), rules[0]), [row[0] for row in rules]]
[[(), ('a',), ('b',), ('a', 'b')], ('a', 'b'), True, [('a',), ('b', 'c')]]
>>> more = rules + (("a", "c"), ("b",))
>>> [rules.without(1).follows_from(rules), rules.follows_from(rules.without(1)), more == rules, more.follows_from(rules)]
[True, False, False, True]
"""

OF_26 = """
>>> from thesesothose.rules import Rules
>>> from thesesothose.closing import broken, follows, gained
>>> rules = Rules(("a", "b", "c", "d"), [(("b",), ("c",)), (("a",), ("b",)), (("c",), ("d",)), (("a",), ("c",))])
>>> [gained(rules, ("a",)), broken(rules, ("a",))]
[[(1, ('a', 'b')), (3, ('a', 'b', 'c')), (2, ('a', 'b', 'c', 'd'))], [1, 3]]
>>> follows(rules, (("b",), ("d",)))
True
"""


class TestExamples(unittest.TestCase):

    def shown(self, text):
        test = doctest.DocTestParser().get_doctest(text, {}, "example", None, 0)
        failures = []
        runner = doctest.DocTestRunner(verbose=False)
        runner.run(test, out=failures.append)
        self.assertGreater(runner.tries, 0)
        self.assertEqual("".join(failures), "")

    def test_of_22(self):
        self.shown(OF_22)

    def test_of_26(self):
        self.shown(OF_26)


if __name__ == "__main__":
    unittest.main()
