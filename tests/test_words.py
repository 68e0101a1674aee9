"""[21], the words, with the definitions of [2]."""

import unittest

from tests.plain import any_values, nested
from thesesothose.words import is_integer, is_lot, is_mark, is_rule, is_thing

WORDS = [is_integer, is_mark, is_lot, is_rule, is_thing]

MARKS = ["a", "z", "ab", "ba", "aa", "abcdefgh", "zzzzzzzz"]
NO_MARKS = ["", "abcdefghi", "A", "aB", "Ab", "a1", "1", "a ", " a", "a b", "a_b", "a-b", "a\n", "\n", "a\x00", ".", "é",
            "aé", "ß", "ª", b"a", ("a",), ["a"], 1, True]
LOTS = [(), ("a",), ("a", "b"), ("a", "aa", "ab", "b"), ("abcdefgh",), tuple("abcdefghijkl")]
NO_LOTS = [("b", "a"), ("a", "a"), ("a", "b", "a"), ("a", "b", "b"), ("ab", "a"), ("a", "B"), ("a", ""), ("abcdefghi",),
           ("a", 1), (1, 2), (True,), (None, "a"), (("a",),), ((),), ["a"], [], "a", "", {"a"}, {"a": 1}, None, 0]
TRULY_NO_PAIRS = [(), ((),), ((), (), ()), (("a",), ("b",), ()), [(), ()], [("a",), ("b",)], ((), []), ([], ()),
                  (("b", "a"), ()), ((), ("b", "a")), (("a", "a"), ()), ("a", "b"), (("a",), "b"), (("a",), ("b", 1)),
                  (("a",), ("B",)), (("a",), None), {(): ()}, None, True, 2]


class TestWords(unittest.TestCase):

    def told(self, word, things):
        for thing in things:
            self.assertIs(word(thing), True, thing)

    def not_told(self, word, things):
        for thing in things:
            self.assertIs(word(thing), False, thing)

    def test_integers(self):
        self.told(is_integer, [0, 1, -1, 10 ** 40, -10 ** 40])
        self.not_told(is_integer, [True, False, None, "1", "", [1], (1,), {1: 1}, b"1", nested(16)])

    def test_marks(self):
        self.told(is_mark, MARKS)
        self.told(is_mark, list("abcdefghijklmnopqrstuvwxyz"))
        self.not_told(is_mark, NO_MARKS)

    def test_every_other_sign_is_no_mark(self):
        for code in range(128):
            self.assertIs(is_mark("b" + chr(code)), 97 <= code <= 122, code)

    def test_lots(self):
        self.told(is_lot, LOTS)
        self.not_told(is_lot, NO_LOTS)

    def test_rules(self):
        self.told(is_rule, [(one, other) for one in LOTS for other in LOTS])
        self.not_told(is_rule, TRULY_NO_PAIRS)
        for lot in NO_LOTS:
            self.not_told(is_rule, [(lot, ()), ((), lot), (lot, lot)])

    def test_things(self):
        self.told(is_thing, [((), ()), (("a",), ()), ((), ("a",)), (("a", "c"), ("b",)), (("a",), ("ab",))])
        self.not_told(is_thing, [(("a",), ("a",)), (("a", "b"), ("b",)), (("c",), ("a", "b", "c"))])
        self.not_told(is_thing, TRULY_NO_PAIRS)
        for lot in NO_LOTS:
            self.not_told(is_thing, [(lot, ()), ((), lot)])

    def test_any_value_is_told_by_a_truth(self):
        for word in WORDS:
            for thing in any_values():
                self.assertIn(word(thing), (True, False))
                self.assertIsInstance(word(thing), bool)

    def test_what_any_values_are_not(self):
        for thing in any_values():
            self.assertIs(is_lot(thing), False)
            self.assertIs(is_rule(thing), False)
            self.assertIs(is_thing(thing), False)

    def test_asking_changes_nothing(self):
        thing = [("b",), ["a", {"c": [1]}]]
        for word in WORDS:
            word(thing)
        self.assertEqual(thing, [("b",), ["a", {"c": [1]}]])


if __name__ == "__main__":
    unittest.main()
