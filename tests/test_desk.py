"""[94]."""

import random
import unittest

from tests.plain import ABC, ABCD, any_values, lots_within, rules_of
from tests.test_book import MORE, NO, YES, is_entry_by_words, some_entry, state
from tests.test_readers import No, entry_in, put_otherwise as put_text_otherwise
from thesesothose.asking import next_question
from thesesothose.book import Book
from thesesothose.desk import Desk
from thesesothose.errors import BadAnswer, Clash, NoCommand, NoEntry, Nothing, NoRow, NoThing, Refused, TheseError, TooMany
from thesesothose.errors import Wrong
from thesesothose.leastlist import least_list
from thesesothose.notation import show_answers, show_entry, show_lot, show_rule
from thesesothose.papers import paper

LINES = ["no . > a b c : a b / c", "yes a > b"]
ALONE = ["undo", "redo", "next", "list", "open", "answers"]


def desk_with(marks, lines):
    desk = Desk(marks)
    for line in lines:
        desk.say(line)
    return desk


def some_desks():
    """Pairs of a desk and a Book with the same entries, drawn once for all."""
    pairs = []
    for seed in range(30):
        chance = random.Random(seed)
        marks = chance.choice([(), ("a",), ("a", "b"), ABC, ABCD])
        desk, book = Desk(marks), Book(marks)
        for _ in range(8):
            entry = some_entry(chance, marks, book.answers)
            try:
                book.do(entry)
            except TheseError:
                continue
            desk.say(show_entry(entry))
        pairs.append((desk, book))
    return pairs


class Case(unittest.TestCase):

    def raised(self, kind, desk, line):
        """The error of a line, which leaves the Book as it was."""
        before = state(desk.book())
        with self.assertRaises(TheseError) as caught:
            desk.say(line)
        self.assertIs(type(caught.exception), kind, line)
        self.assertEqual(state(desk.book()), before)
        return caught.exception


class TestMaking(Case):

    def test_marks(self):
        for marks in [(), ("a",), ABC]:
            self.assertEqual([Desk(marks).book(), type(Desk(marks).book())], [Book(marks), Book])

    def test_marks_that_are_no_lot(self):
        for marks in [*any_values(), ["a"], [], ("b", "a"), ("a", "a"), "abc", Book(ABC), Desk(ABC)]:
            with self.assertRaises(Wrong) as caught:
                Desk(marks)
            self.assertEqual(caught.exception.place, 0)

    def test_the_book_is_its_own(self):
        desk = desk_with(ABC, LINES)
        desk.say("undo")
        book = desk.book()
        before = state(book)
        self.assertEqual([book.redo(), len(book)], [YES, 2])
        book.do(("strike yes", 0))
        book.undo()
        book.undo()
        book.undo()
        self.assertEqual([state(desk.book()), desk.say("redo"), len(book)], [before, "yes a > b", 0])


class TestEntries(Case):

    def test_each_sort(self):
        desk = Desk(ABC)
        for line, answer in [("yes a > b", "1 yes, 0 things"), ("no b > c : a / c", "1 yes, 1 things"),
                             ("yes . > .", "2 yes, 1 things"), ("more 0 : b / .", "2 yes, 1 things"),
                             ("no c > a : c / a", "2 yes, 2 things"), ("strike yes 0", "1 yes, 2 things"),
                             ("strike thing 1", "1 yes, 1 things"), ("strike yes 0", "0 yes, 1 things"),
                             ("strike thing 0", "0 yes, 0 things")]:
            self.assertEqual(desk.say(line), answer)
        self.assertEqual([len(desk.book()), desk.book().log()[:2]], [9, [YES, NO]])

    def test_they_are_done_as_a_book_does(self):
        for desk, book in some_desks():
            self.assertEqual(state(desk.book()), state(book))

    def test_what_an_entry_raises(self):
        desk = desk_with(ABC, LINES)
        self.assertEqual(self.raised(NoRow, desk, "strike yes 1").index, 1)
        self.assertEqual(self.raised(NoThing, desk, "strike thing 999999999").number, 999999999)
        self.assertEqual(self.raised(NoThing, desk, "more 1 : . / .").number, 1)
        self.raised(BadAnswer, desk, "more 0 : c / .")
        self.raised(BadAnswer, desk, "no . > . : . / .")
        error = self.raised(Refused, desk, "yes b > c")
        self.assertEqual([error.answer, type(error.__cause__), error.__cause__.number], [("yes", (("b",), ("c",))), Clash, 0])
        full = desk_with(ABC, ["yes . > ."] * 60)
        self.assertEqual(self.raised(TooMany, full, "yes . > .").limit, 60)

    def test_undo_and_redo(self):
        desk = desk_with(ABC, ["yes a > b", "no b > c : a / c", "more 0 : b / ."])
        self.assertEqual([desk.say("undo"), desk.say("undo"), desk.say("redo")],
                         ["more 0 : b / .", "no b > c : a / c", "no b > c : a / c"])
        self.assertEqual([desk.book().log(), desk.book().redo()], [[YES, NO], MORE])
        desk.say("yes . > .")
        self.raised(Nothing, desk, "redo")
        self.raised(Nothing, Desk(ABC), "undo")
        self.raised(Nothing, Desk(ABC), "redo")


class TestQuestions(Case):

    def test_words(self):
        for desk, book in some_desks():
            for rule in rules_of(book.marks)[::7]:
                self.assertEqual(desk.say(f"ask {show_rule(rule)}"), book[rule])
        desk = desk_with(ABC, LINES)
        self.assertEqual([desk.say("ask a > b"), desk.say("ask b > c"), desk.say("ask c > a"), desk.say("ask . > .")],
                         ["sure", "refuted", "open", "sure"])

    def test_why_sure(self):
        desk = desk_with(ABC, ["yes b > c", "yes . > .", "yes a > b"])
        self.assertEqual([desk.say("why a > c"), desk.say("why a > b"), desk.say("why b > c"), desk.say("why a b > b"),
                          desk.say("why . > .")], ["sure by 2 0", "sure by 2", "sure by 0", "sure by at once", "sure by at once"])

    def test_why_refuted(self):
        desk = desk_with(ABCD, ["no . > d : . / d", "yes a > b", "yes b > c", "no c > d : a / d"])
        self.assertEqual(desk.say("why c > d"), "refuted by 1: 0 1; to d at once")
        self.assertEqual(desk.say("why . > d"), "refuted by 0: at once; to d at once")
        desk.say("yes c d > a")
        self.assertEqual(desk.say("why b > d"), "refuted by 1: 0; to d at once")
        other = desk_with(ABC, ["yes a > b", "yes b > c", "no . > c : . / b c"])
        self.assertEqual([other.say("why . > a"), other.say("why . > c")],
                         ["refuted by 0: at once; to b 0", "refuted by 0: at once; to c at once"])
        both = desk_with(ABCD, ["yes a > b", "yes c > d", "no b > c : a / d"])
        self.assertEqual(both.say("why b > c"), "refuted by 0: 0; to d 0 1")
        self.assertEqual(desk_with(ABC, ["yes a > b", "yes b > c", "no . > c : . / c"]).say("why . > a"),
                         "refuted by 0: at once; to c 0 1")

    def test_why_open(self):
        desk = Desk(ABC)
        self.assertEqual([desk.say("why a > b"), desk.say("why . > a b")], ["open:  | a", "open:  | ."])
        desk = desk_with(ABC, ["no . > c : . / c", "no . > c : a / c"])
        self.assertEqual(desk.say("why a > b"), "open: ., a b | ., a, a")
        self.assertEqual(desk.say("why b > a"), "open: ., a | ., a, b")

    def test_why_as_paper_tells(self):
        seen = []
        for desk, book in some_desks():
            for rule in rules_of(book.marks)[::7]:
                found = paper(book.answers, rule)
                parts = [" ".join(map(str, part)) or "at once" for part in found if type(part) is list]
                if found[0] == "sure":
                    told = "sure by " + parts[0]
                elif found[0] == "refuted":
                    told = "refuted by " + str(found[1]) + ": " + parts[0] + "; to " + found[4] + " " + parts[1]
                else:
                    told = "open: " + " | ".join([", ".join([show_lot(lot) for lot in table]) for table in found[1:]])
                self.assertEqual(desk.say("why " + show_rule(rule)), told)
                seen.append((found[0], parts == ["at once"]))
        self.assertEqual({word for word, _ in seen}, {"sure", "refuted", "open"})

    def test_next(self):
        for desk, book in some_desks():
            rule = next_question(book.answers)
            self.assertEqual(desk.say("next"), "nothing" if rule is None else show_rule(rule))
        self.assertEqual([Desk(()).say("next"), Desk(("a",)).say("next"), desk_with(ABC, ["yes . > a b c"]).say("next")],
                         ["nothing", ". > a", "nothing"])

    def test_list(self):
        for desk, book in some_desks():
            rows = least_list(book.answers.yeses).rows()
            self.assertEqual(desk.say("list"), "; ".join(map(show_rule, rows)) or "nothing")
        self.assertEqual([Desk(ABC).say("list"), desk_with(ABC, ["yes . > ."]).say("list"),
                          desk_with(ABC, ["yes b > c", "yes a > b"]).say("list")], ["nothing", "nothing", "a > b c; b > c"])

    def test_open(self):
        for desk, book in some_desks():
            self.assertEqual(desk.say("open"), str(len(book.answers.opens())))
        self.assertEqual([Desk(()).say("open"), Desk(("a",)).say("open"), Desk(ABC).say("open")], ["0", "1", "12"])

    def test_closing(self):
        for desk, book in some_desks():
            for lot in lots_within(book.marks):
                self.assertEqual(desk.say("closing " + show_lot(lot)), show_lot(book.answers.yeses(lot)))
        desk = desk_with(ABC, ["yes a > b"])
        self.assertEqual([desk.say("closing a"), desk.say("closing ."), desk.say("closing b c")], ["a b", ".", "b c"])

    def test_answers_and_past(self):
        for desk, book in some_desks():
            self.assertEqual(desk.say("answers"), "; ".join(show_answers(book.answers).split("\n")))
            for many in range(len(book) + 1):
                self.assertEqual(desk.say(f"past {many}"), "; ".join(show_answers(book.past(many)).split("\n")))
        desk = desk_with(ABC, LINES)
        self.assertEqual([desk.say("answers"), desk.say("past 0"), desk.say("past 1")],
                         ["marks a b c; yes a > b; thing a b / c", "marks a b c", "marks a b c; thing a b / c"])
        for many in [3, 4, 10, 999999999]:
            self.assertEqual(self.raised(NoEntry, desk, f"past {many}").many, many)
        desk.say("undo")
        self.assertEqual(self.raised(NoEntry, desk, "past 2").many, 2)

    def test_asking_changes_nothing(self):
        desk = desk_with(ABC, LINES)
        desk.say("undo")
        before = state(desk.book())
        for line in ["ask a > b", "why a > b", "why . > a b c", "next", "list", "open", "closing a", "answers", "past 1", "past 0"]:
            self.assertEqual(desk.say(line), desk.say(line))
            self.assertEqual(state(desk.book()), before)


class TestNoCommand(Case):

    def test_any_other_value(self):
        desk = desk_with(ABC, LINES)
        for line in [*any_values(), (), [], 0, 1, YES, ["undo"], ("undo",), b"undo", desk, Book(ABC)]:
            self.raised(NoCommand, desk, line)

    def test_other_lines(self):
        desk = desk_with(ABC, LINES)
        for line in ["", " ", "\n", ".", "a > b", "Undo", "undo ", " undo", "undo\n", "undo 1", "redo ", "next .", "list a", "open ",
                     "answers 1", "asks a > b", "ask", "ask ", "ask a", "ask  a > b", "ask a > b ", "ask a / b", "ask\na > b", "why",
                     "why ", "why .", "whya > b", "closing", "closing ", "closing a > b", "closing  a", "closing a ", "past", "past ",
                     "past a", "past  1", "past 1 ", "past .", "yes", "yes ", "no a > b", "more", "strike", "strike yes", "strike 0",
                     "yes a > b\nyes a > b", "undo\nundo", "strike yes 0 ", "nothing", "marks a b c", "thing a / b"]:
            self.raised(NoCommand, desk, line)

    def test_what_is_none_of_the_marks(self):
        desk = desk_with(ABC, LINES)
        for line in ["ask d > a", "ask a > d", "why d > a", "why a > b d", "closing d", "closing a b c d", "yes d > a", "yes a > d",
                     "no d > a : d / a", "no . > a : d / a", "no . > a : . / a d", "more 0 : d / .", "more 0 : . / d",
                     "more 9 : . / d"]:
            self.raised(NoCommand, desk, line)
        for line in ["ask b a > c", "ask a a > c", "closing b a", "more 0 : a / a", "no . > a : a / a", "closing A"]:
            self.raised(NoCommand, desk, line)

    def test_numbers(self):
        desk = desk_with(ABC, LINES)
        for number in ["-1", "-0", "+0", "00", "01", "0000000000", "1000000000", "1" * 40, "0x0", "a", "0.", "0 0", "1_0", ""]:
            for line in [f"past {number}", f"strike yes {number}", f"strike thing {number}", f"more {number} : . / ."]:
                self.raised(NoCommand, desk, line)

    def test_one_sign_otherwise(self):
        seen = []
        for text in ["yes a > b", "no b > a : b / a", "more 0 : . / .", "strike yes 0", "strike thing 0"]:
            for line in put_text_otherwise(text):
                try:
                    entry = entry_in(line)
                except No:
                    entry = None
                if is_entry_by_words(ABC, entry):
                    self.done_as_by_a_book(line, entry)
                elif line not in ALONE:
                    self.raised(NoCommand, desk_with(ABC, LINES), line)
                seen.append(entry is None)
        self.assertEqual(set(seen), {True, False})

    def done_as_by_a_book(self, line, entry):
        desk = desk_with(ABC, LINES)
        book = desk.book()
        try:
            book.do(entry)
        except TheseError as error:
            self.raised(type(error), desk, line)
        else:
            self.assertEqual(desk.say(line), f"{len(book.answers.yeses)} yes, {len(book.answers)} things")
            self.assertEqual(state(desk.book()), state(book))


if __name__ == "__main__":
    unittest.main()
