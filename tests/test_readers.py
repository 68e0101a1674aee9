"""[93]."""

import re
import unittest

from tests.plain import ABC, TEN, answers_lists, any_values, lot_lists, lots_within, row_lists, rules_of, things_of
from tests.test_book import ENTRIES, MORE, NO, NOTHING, YES, behind_by_words, clash_by_words, done, redone
from tests.test_notation import WORDS
from thesesothose.answers import Answers
from thesesothose.book import Book
from thesesothose.errors import NoText
from thesesothose.notation import show_answers, show_book, show_entry, show_lot, show_rule, show_rules, show_table
from thesesothose.notation import show_thing
from thesesothose.readers import read_answers, read_book, read_entry, read_lot, read_rule, read_rules, read_table, read_thing
from thesesothose.rules import Rules
from thesesothose.tables import Table

BOOK = [("yes", (("yes",), ("no",))), ("no", (("more",), ("yes",)), (("more",), ("no",))), ("more", 0, ((), ("thing",)))]
SIGNS = " .>/:\n-_0129abcnyzA\t\r,"


class No(Exception):
    """A text that no object has."""


def wanted(test):
    if not test:
        raise No()


def lot_in(text):
    """What the text of a lot tells, read in another way than the program does."""
    if text == ".":
        return ()
    wanted(re.fullmatch("[a-z]{1,8}(?: [a-z]{1,8})*", text))
    lot = re.findall("[a-z]+", text)
    wanted(lot == sorted(set(lot)))
    return tuple(lot)


def pair_in(text, sign):
    match = re.fullmatch(f"([a-z. ]*) {sign} ([a-z. ]*)", text)
    wanted(match)
    return (lot_in(match[1]), lot_in(match[2]))


def rule_in(text):
    return pair_in(text, ">")


def thing_in(text):
    has, lacks = pair_in(text, "/")
    wanted(not set(has) & set(lacks))
    return (has, lacks)


def entry_in(text):
    for pattern, parts in [("(yes) (.*)", [rule_in]), ("(no) (.*) : (.*)", [rule_in, thing_in]),
                           ("(more) (0|[1-9][0-9]{0,8}) : (.*)", [int, thing_in]),
                           ("(strike yes|strike thing) (0|[1-9][0-9]{0,8})", [int])]:
        match = re.fullmatch(pattern, text)
        if match:
            return (match[1], *[part(group) for part, group in zip(parts, match.groups()[1:])])
    raise No()


def marks_in(text):
    lines = re.split("\n", text)
    wanted(lines[0][:6] == "marks ")
    return lot_in(lines[0][6:]), lines[1:]


def all_of(marks, lots):
    wanted(all(set(lot) <= set(marks) for lot in lots))


def rules_in(text):
    marks, lines = marks_in(text)
    rows = [rule_in(line) for line in lines]
    all_of(marks, [lot for row in rows for lot in row])
    return Rules(marks, rows)


def table_in(text):
    marks, lines = marks_in(text)
    lots = [lot_in(line) for line in lines]
    all_of(marks, lots)
    return Table(marks, lots)


def answers_in(text):
    marks, lines = marks_in(text)
    wanted(re.fullmatch("y*t*", "".join([line[:1] or "-" for line in lines])))
    rows, things = [], []
    for line in lines:
        word, rest = re.fullmatch("(yes |thing |)(.*)", line).groups()
        wanted(word)
        (rows if word == "yes " else things).append(rule_in(rest) if word == "yes " else thing_in(rest))
    all_of(marks, [lot for pair in rows + things for lot in pair])
    return Answers(Rules(marks, rows), things)


def book_in(text):
    marks, lines = marks_in(text)
    entries, rows, things = [entry_in(line) for line in lines], [], []
    wanted(len(entries) <= 60)
    for entry in entries:
        told = behind_by_words(marks, rows, things, entry)
        wanted(isinstance(told[0], list) and clash_by_words(marks, *told) is None)
        rows, things = told
    return done(marks, entries)


SORTS = [(read_lot, show_lot, lot_in), (read_rule, show_rule, rule_in), (read_thing, show_thing, thing_in),
         (read_rules, show_rules, rules_in), (read_table, show_table, table_in), (read_answers, show_answers, answers_in),
         (read_entry, show_entry, entry_in), (read_book, show_book, book_in)]


def put_otherwise(text):
    """The texts with one sign put otherwise, left out, put twice, or put in, at any place."""
    texts = []
    for at in range(len(text) + 1):
        texts += [text[:at] + sign + text[at:] for sign in SIGNS]
        texts += [text[:at] + sign + text[at + 1:] for sign in SIGNS]
        texts += [text[:at] + text[at + 1:], text[:at] + text[at:at + 1] + text[at:], text[:at], text[at:]]
    return texts


def objects():
    """Lists of objects of each sort, in the order of SORTS."""
    rules = [Rules(*pair) for pair in row_lists()] + [Rules(WORDS, [(("yes",), ("no", "thing")), (("marks",), ())])]
    tables = [Table(*pair) for pair in lot_lists()] + [Table(WORDS, [("marks",), ("thing", "yes"), ()])]
    answers = [Answers(Rules(marks, rows), things) for marks, rows, things in answers_lists()]
    answers.append(Answers(Rules(WORDS, [(("yes",), ("thing",))]), [(("yes",), ("marks",))]))
    entries = [*ENTRIES, *BOOK, ("more", 999999999, NOTHING), ("strike yes", 10), ("strike thing", 105), ("yes", NOTHING)]
    books = [Book(()), Book(ABC), done(WORDS, BOOK), done(ABC, [YES] * 60)]
    books += [done(ABC, ENTRIES[:many]) for many in range(1, 6)]
    return [lots_within(("a", "ab", "b", "c")) + [TEN, WORDS], rules_of(ABC) + [(WORDS, ("abcdefgh",))],
            things_of(ABC) + [(WORDS, ("abcdefgh",))], rules, tables, answers, entries, books]


class TestReaders(unittest.TestCase):

    def refused(self, read, text):
        with self.assertRaises(NoText) as caught:
            read(text)
        self.assertIs(type(caught.exception), NoText)

    def same(self, read, show, told, text):
        """A text is read just if it tells something, and then it is the text of what is read."""
        try:
            value = told(text)
        except No:
            self.refused(read, text)
            return False
        found = read(text)
        self.assertEqual([found, type(found), show(found)], [value, type(value), text])
        return True

    def test_read_back(self):
        for (read, show, told), values in zip(SORTS, objects()):
            for value in values:
                text = show(value)
                found = read(text)
                self.assertEqual([found, type(found), show(found)], [value, type(value), text])
                self.assertTrue(self.same(read, show, told, text))

    def test_one_sign_otherwise(self):
        texts = [["a", "ab b", "."], ["a > b", ". > a b", "a > ."], ["a / b", "b c / .", ". / ."],
                 ["marks a b", "marks a b\na > b\n. > .", "marks .\n. > ."], ["marks a b", "marks a b\nb\n.\na b"],
                 ["marks a b", "marks a b\nyes a > b\nthing . / a\nthing a / .", "marks .\nthing . / ."],
                 ["yes a > .", "no b > a : b / a", "more 10 : a / .", "more 0 : . / .", "strike yes 20", "strike thing 0"],
                 ["marks a b\nyes a > b\nno b > a : b / a\nmore 0 : . / .\nstrike yes 0", "marks ."]]
        seen = []
        for (read, show, told), some in zip(SORTS, texts):
            for text in some:
                self.assertTrue(self.same(read, show, told, text))
                for changed in put_otherwise(text):
                    seen.append((read, self.same(read, show, told, changed)))
        self.assertEqual(len(set(seen)), 16)

    def test_the_texts_of_other_sorts(self):
        for values, (_, show, _) in zip(objects(), SORTS):
            for value in values[::5]:
                for read, show_other, told in SORTS:
                    self.same(read, show_other, told, show(value))

    def test_any_other_value(self):
        for read, _, _ in SORTS:
            for value in [*any_values(), (), [], ("a",), YES, Book(ABC), Rules(ABC, []), Table(ABC, []), b"a", b".", ["."]]:
                if not isinstance(value, str):
                    self.refused(read, value)
            for text in ["", " ", "\n", "marks ", "marks  a", "Marks a", " marks a", "marks a ", "marks a\n", "marks b a",
                         "marks a a", "marks abcdefghi", "marks a\n\n", ">", " > ", "a >", "> a", "a>b", "a  > b", "/", " : ", ". ."]:
                self.refused(read, text)

    def test_the_word_alone_is_a_mark(self):
        self.assertEqual(read_lot("marks"), ("marks",))
        for read in [read_rules, read_table, read_answers, read_book]:
            self.refused(read, "marks")

    def test_lots(self):
        for text in ["b a", "a a", "A", "a1", ". a", "a .", "..", " a", "a ", "a  b", "abcdefghi", "a,b", "a\tb", "a\nb"]:
            self.refused(read_lot, text)
        self.assertEqual([read_lot("."), read_lot("a"), read_lot("abcdefgh b")], [(), ("a",), ("abcdefgh", "b")])
        self.refused(read_thing, "a b / b c")
        self.assertEqual(read_rule("a b > b c"), (("a", "b"), ("b", "c")))
        for text in ["a > b > c", "a / b", "a > b / c", "> > >"]:
            self.refused(read_rule, text)
        for text in ["a / b / c", "a > b"]:
            self.refused(read_thing, text)

    def test_marks_that_are_not_there(self):
        for read, texts in [(read_rules, ["marks a\na > b", "marks a\nb > a", "marks .\na > ."]),
                            (read_table, ["marks a\nb", "marks .\na", "marks a c\na b c"]),
                            (read_answers, ["marks a\nyes a > b", "marks a\nthing b / .", "marks a\nthing a / b"]),
                            (read_book, ["marks a\nyes a > b", "marks a\nno . > a : b / a", "marks a\nno . > a : . / a b"])]:
            for text in texts:
                self.refused(read, text)

    def test_things_before_yeses(self):
        for text in ["thing a / .\nyes a > b", "yes a > b\nthing a / .\nyes a > b", "thing . / .\nyes . > .\nthing . / ."]:
            self.refused(read_answers, f"marks a b\n{text}")
        self.assertEqual(len(read_answers("marks a b\nyes a > b\nyes a > b\nthing a / .\nthing a / .")), 2)

    def test_answers_that_do_not_stand(self):
        answers = read_answers("marks a b\nyes a > b\nthing a / b")
        self.assertEqual([answers.stands(), answers.things()], [False, [(("a",), ("b",))]])

    def test_numbers(self):
        for text, number in [("0", 0), ("7", 7), ("10", 10), ("100000000", 10 ** 8), ("999999999", 10 ** 9 - 1)]:
            self.assertEqual(read_entry(f"strike yes {text}"), ("strike yes", number))
            self.assertEqual(read_entry(f"strike thing {text}"), ("strike thing", number))
            self.assertEqual(read_entry(f"more {text} : a / b"), ("more", number, (("a",), ("b",))))
        for text in ["1000000000", "9999999999", "1" * 30, "-1", "-0", "+1", "00", "01", "007", "0000000001", "", " 1", "1 ", "1.",
                     "1_0", "a", "0x1", "1e3", ".", "1 1", "\u00b2", "\u0663"]:
            self.refused(read_entry, f"strike yes {text}")
            self.refused(read_entry, f"strike thing {text}")
            self.refused(read_entry, f"more {text} : a / b")

    def test_entries_that_are_none(self):
        for text in ["yes", "yes ", "yes a", "no a > b", "no a > b : a", "no a > b : a / b : a / b", "no a > b: a / b", "more 0",
                     "more : a / b", "more 0 a / b", "strike", "strike 0", "strike yes", "strike things 0", "strike yes0",
                     "strike thing0", "yes  a > b", "no a / b : a > b", "more 0 : a > b", "undo", "Yes a > b", "yes a > b\n"]:
            self.refused(read_entry, text)
        self.assertEqual(read_entry("no a > b : a / b"), ("no", (("a",), ("b",)), (("a",), ("b",))))


class TestBooks(unittest.TestCase):

    def refused(self, lines):
        with self.assertRaises(NoText) as caught:
            read_book("\n".join(["marks a b c", *lines]))
        self.assertIs(type(caught.exception), NoText)

    def test_entries_that_cannot_be_done(self):
        self.refused(["strike yes 0"])
        self.refused(["strike thing 0"])
        self.refused(["more 0 : a / ."])
        self.refused(["yes a > b", "strike yes 1"])
        self.refused(["no a > b : . / b"])
        self.refused(["no . > a : . / a", "more 0 : a / ."])
        self.refused(["no . > a : . / a", "yes . > a"])
        self.refused(["yes a > b", "no a > b : a / b"])
        self.refused(["yes a > b"] * 61)
        self.assertEqual(len(read_book("\n".join(["marks a b c"] + ["yes a > b"] * 60))), 60)

    def test_with_nothing_to_be_done_again(self):
        book = done(ABC, [YES, NO, MORE])
        book.undo()
        told = read_book(show_book(book))
        self.assertEqual([told == book, told.answers == book.answers, redone(told), redone(book)], [True, True, [], [MORE]])
        told.do(("yes", NOTHING))
        self.assertEqual([len(book), len(read_book(show_book(book)))], [2, 2])

    def test_a_book_with_an_entry_struck(self):
        text = "marks a b c\nyes a > b\nstrike yes 0\nno a > b : a / b\nstrike thing 0"
        self.assertEqual([show_book(read_book(text)), read_book(text).answers], [text, Book(ABC).answers])


if __name__ == "__main__":
    unittest.main()
