"""[92]."""

import unittest

from tests.plain import ABC, TEN, answers_lists, lot_lists, lots_within, row_lists, things_of
from tests.test_book import ENTRIES, MORE, NO, NOTHING, YES, done
from thesesothose.answers import Answers
from thesesothose.book import Book
from thesesothose.notation import show_answers, show_book, show_entry, show_lot, show_rule, show_rules, show_table
from thesesothose.notation import show_thing
from thesesothose.rules import Rules
from thesesothose.tables import Table

WORDS = ("marks", "more", "no", "strike", "thing", "yes")


def lot_text(lot):
    text = "."
    for place, mark in enumerate(lot):
        text = mark if place == 0 else text + " " + mark
    return text


def rule_text(rule):
    return lot_text(rule[0]) + " > " + lot_text(rule[1])


def thing_text(thing):
    return lot_text(thing[0]) + " / " + lot_text(thing[1])


def lines_of(marks, lines):
    text = "marks " + lot_text(marks)
    for line in lines:
        text += "\n" + line
    return text


class TestPlainOnes(unittest.TestCase):

    def test_by_words(self):
        for lot in lots_within(("a", "ab", "b", "c")):
            self.assertEqual(show_lot(lot), lot_text(lot))
            for other in lots_within(ABC):
                self.assertEqual(show_rule((lot, other)), rule_text((lot, other)))
        for thing in things_of(ABC):
            self.assertEqual(show_thing(thing), thing_text(thing))

    def test_signs_and_blanks(self):
        self.assertEqual([show_lot(()), show_lot(("a",)), show_lot(("abcdefgh", "b")), show_lot(TEN)],
                         [".", "a", "abcdefgh b", "a b c d e f g h i j"])
        self.assertEqual([show_rule((("a", "b"), ("c",))), show_rule(NOTHING), show_rule(((), ("a",))), show_rule((ABC, ABC))],
                         ["a b > c", ". > .", ". > a", "a b c > a b c"])
        self.assertEqual([show_thing((("a", "b"), ("c",))), show_thing(NOTHING), show_thing((("a",), ()))],
                         ["a b / c", ". / .", "a / ."])

    def test_marks_that_are_words(self):
        self.assertEqual([show_lot(WORDS), show_rule((("yes",), ("no",))), show_thing((("thing",), ("marks",)))],
                         ["marks more no strike thing yes", "yes > no", "thing / marks"])


class TestWholeOnes(unittest.TestCase):

    def test_by_words(self):
        for marks, rows in row_lists():
            self.assertEqual(show_rules(Rules(marks, rows)), lines_of(marks, [rule_text(row) for row in rows]))
        for marks, lots in lot_lists():
            self.assertEqual(show_table(Table(marks, lots)), lines_of(marks, [lot_text(lot) for lot in lots]))
        for marks, rows, things in answers_lists():
            lines = ["yes " + rule_text(row) for row in rows] + ["thing " + thing_text(thing) for thing in things]
            self.assertEqual(show_answers(Answers(Rules(marks, rows), things)), lines_of(marks, lines))

    def test_line_feeds_between_the_lines_alone(self):
        self.assertEqual([show_rules(Rules(ABC, [])), show_rules(Rules((), [])), show_rules(Rules((), [NOTHING]))],
                         ["marks a b c", "marks .", "marks .\n. > ."])
        self.assertEqual([show_table(Table(ABC, [])), show_table(Table((), [(), ()])), show_table(Table(ABC, [ABC, (), ABC]))],
                         ["marks a b c", "marks .\n.\n.", "marks a b c\na b c\n.\na b c"])
        self.assertEqual(show_rules(Rules(ABC, [(("b",), ("a",)), (("a",), ("b",))])), "marks a b c\nb > a\na > b")
        answers = Answers(Rules(ABC, [(("b",), ("a",)), NOTHING]), [(("a",), ("c",)), NOTHING])
        self.assertEqual(show_answers(answers), "marks a b c\nyes b > a\nyes . > .\nthing a / c\nthing . / .")
        self.assertEqual([show_answers(Answers(Rules(ABC, []), [])), show_book(Book(()))], ["marks a b c", "marks ."])

    def test_books(self):
        self.assertEqual(show_book(done(ABC, ENTRIES)),
                         "marks a b c\nyes a > b\nno b > c : a / c\nmore 0 : b / .\nstrike yes 0\nstrike thing 0")
        book = done(ABC, ENTRIES)
        book.undo()
        self.assertEqual(show_book(book), "marks a b c\nyes a > b\nno b > c : a / c\nmore 0 : b / .\nstrike yes 0")

    def test_marks_that_are_words(self):
        answers = Answers(Rules(WORDS, [(("yes",), ("no", "thing"))]), [(("marks",), ("more",))])
        self.assertEqual(show_answers(answers), "marks marks more no strike thing yes\nyes yes > no thing\nthing marks / more")


class TestEntries(unittest.TestCase):

    def test_each_sort(self):
        for entry, text in [(YES, "yes a > b"), (NO, "no b > c : a / c"), (MORE, "more 0 : b / ."),
                            (("strike yes", 0), "strike yes 0"), (("strike thing", 12), "strike thing 12"),
                            (("no", NOTHING, NOTHING), "no . > . : . / ."), (("more", 999999999, NOTHING), "more 999999999 : . / ."),
                            (("yes", (("more", "no"), ())), "yes more no > ."), (("strike yes", -3), "strike yes -3"),
                            (("more", 10 ** 39, (("a",), ("b",))), f"more 1{'0' * 39} : a / b")]:
            self.assertEqual(show_entry(entry), text)


if __name__ == "__main__":
    unittest.main()
