"""[91], with [3] of copying and [4] of errors."""

import random
import unittest

from tests.plain import ABC, ABCD, any_values, closing_by_rows, some_lot, some_thing
from thesesothose.answers import Answers
from thesesothose.book import Book, is_entry
from thesesothose.deriving import derivation
from thesesothose.errors import BadAnswer, Clash, NoEntry, Nothing, NoRow, NoThing, Refused, TheseError, TooMany, Wrong
from thesesothose.rules import Rules
from thesesothose.tables import Table

EIGHT = tuple("abcdefgh")
NOTHING = ((), ())
YES = ("yes", (("a",), ("b",)))
NO = ("no", (("b",), ("c",)), (("a",), ("c",)))
MORE = ("more", 0, (("b",), ()))
ENTRIES = [YES, NO, MORE, ("strike yes", 0), ("strike thing", 0)]
PARTS = ["yes", "no", "more", "strike yes", "strike thing", "strike", "Yes", "yes ", 0, 7, (), ("a",), ("d",), ("a", "d"),
         ("b", "a"), ["a"], NOTHING, (("a",), ("a",)), (("a",), ("d",)), ((), ("a",)), [(), ()], ((), (), ()), ((),)]
NO_INDEXES = [-1, -2, 1, 2, 10 ** 39, -10 ** 39]


def is_integer(thing):
    return type(thing) is int


def is_lot_of(marks, thing):
    return type(thing) is tuple and all(mark in marks for mark in thing) and list(thing) == sorted(set(thing))


def is_pair_of(marks, thing):
    return type(thing) is tuple and len(thing) == 2 and all(is_lot_of(marks, lot) for lot in thing)


def is_thing_of(marks, thing):
    return is_pair_of(marks, thing) and not set(thing[0]) & set(thing[1])


def is_entry_by_words(marks, thing):
    if type(thing) is not tuple or not thing or type(thing[0]) is not str:
        return False
    tests = {"yes": [is_pair_of], "no": [is_pair_of, is_thing_of], "strike yes": [None], "strike thing": [None],
             "more": [None, is_thing_of]}.get(thing[0])
    if tests is None or len(tests) != len(thing) - 1:
        return False
    return all(is_integer(part) if test is None else test(marks, part) for test, part in zip(tests, thing[1:]))


def put_otherwise(value, parts):
    """All that is like a value but for one part, at any place, which is one of some others, left out or put twice."""
    changed = list(parts)
    if isinstance(value, tuple):
        for at, part in enumerate(value):
            changed += [value[:at] + (other,) + value[at + 1:] for other in put_otherwise(part, parts)]
            changed += [value[:at] + value[at + 1:], value[:at] + (part,) + value[at:]]
        changed += [value + (None,), list(value)]
    return changed


def behind_by_words(marks, rows, things, entry):
    """The rows and things behind an entry, or the error, and what it keeps; by the words of the document."""
    if not is_entry_by_words(marks, entry):
        return (Wrong, 0)
    word, told = entry[:2]
    if word == "strike yes":
        return (rows[:told] + rows[told + 1:], things) if 0 <= told < len(rows) else (NoRow, told)
    if word in ("more", "strike thing") and not 0 <= told < len(things):
        return (NoThing, told)
    if word == "strike thing":
        return (rows, things[:told] + things[told + 1:])
    if word == "yes":
        return ([*rows, told], things)
    has, lacks = map(set, entry[2])
    if word == "more":
        has, lacks = has | set(things[told][0]), lacks | set(things[told][1])
        grown = (tuple(sorted(has)), tuple(sorted(lacks)))
        return (BadAnswer, None) if has & lacks else (rows, things[:told] + [grown] + things[told + 1:])
    led = closing_by_rows(marks, rows, tuple(sorted(has | set(told[1]))))
    if not set(told[0]) <= set(closing_by_rows(marks, rows, entry[2][0])) or not set(led) & lacks:
        return (BadAnswer, None)
    return (rows, [*things, entry[2]])


def clash_by_words(marks, rows, things):
    """The number of the first thing that clashes, and the first mark that shows it, or None."""
    for number, (has, lacks) in enumerate(things):
        met = [mark for mark in lacks if mark in closing_by_rows(marks, rows, has)]
        if met:
            return (number, met[0])
    return None


def done(marks, entries):
    book = Book(marks)
    for entry in entries:
        book.do(entry)
    return book


def redone(book):
    """The list of all that can be done again, the next one first."""
    copied, entries = book.copied(), []
    while True:
        try:
            entries.append(copied.redo())
        except Nothing:
            return entries


def state(book):
    """All that a Book tells of itself."""
    pasts = [book.past(many) for many in range(len(book) + 1)]
    return [book.marks, book.log(), list(book), len(book), book.answers, pasts, redone(book)]


def some_entry(chance, marks, answers):
    """An entry, drawn so that it can often be done."""
    word = chance.choice(["yes", "no", "no", "more", "strike yes", "strike thing"])
    if word == "yes":
        return (word, (some_lot(chance, marks), some_lot(chance, marks)))
    if word == "no":
        thing = some_thing(chance, marks)
        behind = tuple(sorted({*some_lot(chance, marks), *thing[1][:1]}))
        return (word, (tuple(mark for mark in thing[0] if chance.random() < 0.7), behind), thing)
    many = len(answers.yeses) if word == "strike yes" else len(answers)
    index = chance.randrange(-1, many + 1)
    return (word, index, some_thing(chance, marks)) if word == "more" else (word, index)


class Case(unittest.TestCase):

    def raised(self, kind, field, value, act):
        with self.assertRaises(TheseError) as caught:
            act()
        self.assertIs(type(caught.exception), kind)
        if field is not None:
            self.assertEqual(getattr(caught.exception, field), value)
            self.assertIs(type(getattr(caught.exception, field)), type(value))
        return caught.exception


class TestIsEntry(Case):

    def test_each_sort(self):
        for entry in ENTRIES + [("more", -5, NOTHING), ("strike yes", 10 ** 39), ("strike thing", -1), ("yes", NOTHING)]:
            self.assertIs(is_entry(ABC, entry), True)
        self.assertIs(is_entry((), ("no", NOTHING, NOTHING)), True)
        self.assertIs(is_entry((), ("strike yes", 0)), True)

    def test_marks_of_none_to_eight(self):
        for many in range(9):
            marks = EIGHT[:many]
            for entry in [("yes", (("h",), ())), ("yes", ((), ("b", "d"))), ("no", NOTHING, ((), ("c",))), YES, NO, MORE,
                          ("more", 0, (("e",), ("a",))), ("more", 1, NOTHING), ("strike yes", 1), ("no", (EIGHT, ()), NOTHING)]:
                self.assertIs(is_entry(marks, entry), is_entry_by_words(marks, entry))

    def test_one_part_put_otherwise_at_any_place(self):
        seen = []
        for entry in ENTRIES:
            for thing in put_otherwise(entry, PARTS):
                told = is_entry(ABC, thing)
                self.assertIs(told, is_entry_by_words(ABC, thing), thing)
                seen.append((entry[0], told))
        self.assertEqual(len(set(seen)), 10)

    def test_any_value_at_any_place(self):
        for value in any_values():
            for entry in ENTRIES:
                for thing in put_otherwise(entry, [value])[:-2]:
                    self.assertIs(is_entry(ABC, thing), is_entry_by_words(ABC, thing))
        for thing in [*any_values(), [], (), ("yes",), Book(ABC), list(YES), ("strike yes", True), ("more", False, NOTHING)]:
            self.assertIs(is_entry(ABC, thing), False)


class TestMaking(Case):

    def test_marks(self):
        for marks in [(), ("a",), ABC, EIGHT]:
            book = Book(marks)
            self.assertEqual(state(book), [marks, [], [], 0, Answers(Rules(marks, []), []), [book.answers], []])

    def test_marks_that_are_no_lot(self):
        for marks in [*any_values(), ["a"], [], ("b", "a"), ("a", "a"), "abc", Rules(ABC, []), Book(ABC)]:
            self.raised(Wrong, "place", 0, lambda: Book(marks))

    def test_properties_are_not_assigned(self):
        with self.assertRaises(AttributeError):
            Book(ABC).marks = ("a",)
        with self.assertRaises(AttributeError):
            Book(ABC).answers = Answers(Rules(ABC, []), [])

    def test_told_lists_that_are_changed(self):
        book = done(ABC, [YES, NO])
        before = state(book)
        book.log().clear()
        list(book).clear()
        book.answers.things().clear()
        book.answers.yeses.rows().clear()
        book.past(1).things().append(NOTHING)
        self.assertEqual([state(book), len(book)], [before, 2])

    def test_answers_that_were_told_stay(self):
        book = done(ABC, [YES])
        told = book.answers
        book.do(NO)
        book.undo()
        book.undo()
        self.assertEqual(told, Answers(Rules(ABC, [YES[1]]), []))


class TestDo(Case):

    def test_each_sort(self):
        book = Book(ABC)
        steps = [(YES, [YES[1]], []), (NO, [YES[1]], [NO[2]]), (("yes", NOTHING), [YES[1], NOTHING], [NO[2]]),
                 (("no", (("b",), ("a",)), (("b",), ("a",))), [YES[1], NOTHING], [NO[2], (("b",), ("a",))]),
                 (MORE, [YES[1], NOTHING], [(("a", "b"), ("c",)), (("b",), ("a",))]),
                 (("strike yes", 0), [NOTHING], [(("a", "b"), ("c",)), (("b",), ("a",))]),
                 (("strike thing", 0), [NOTHING], [(("b",), ("a",))]), (("strike yes", 0), [], [(("b",), ("a",))])]
        for many, (entry, rows, things) in enumerate(steps):
            self.assertIsNone(book.do(entry))
            self.assertEqual([book.answers, len(book)], [Answers(Rules(ABC, rows), things), many + 1])
            self.assertEqual(book.log(), [step[0] for step in steps[:many + 1]])

    def test_by_words_in_long_runs(self):
        seen = []
        for seed in range(150):
            chance = random.Random(seed)
            marks = chance.choice([("a",), ("a", "b"), ABC, ABCD])
            book, rows, things = Book(marks), [], []
            for _ in range(25):
                entry = some_entry(chance, marks, book.answers)
                told, clash = behind_by_words(marks, rows, things, entry), None
                before = state(book)
                if isinstance(told[0], list):
                    clash = clash_by_words(marks, *told)
                if clash is not None:
                    error = self.raised(Refused, "answer", entry, lambda: book.do(entry))
                    self.assertEqual([type(error.__cause__), error.__cause__.number], [Clash, clash[0]])
                    rows_to = derivation(Rules(marks, told[0]), (told[1][clash[0]][0], (clash[1],)))
                    self.assertEqual(book.cause(entry), (*clash, rows_to))
                    self.assertEqual(state(book), before)
                    seen.append(Refused)
                elif isinstance(told[0], list):
                    self.assertIsNone(book.cause(entry))
                    self.assertEqual(state(book), before)
                    book.do(entry)
                    rows, things = told
                    seen.append(entry[0])
                else:
                    field = {NoRow: "index", NoThing: "number", BadAnswer: None}[told[0]]
                    for call in [book.do, book.cause]:
                        self.raised(told[0], field, told[1], lambda: call(entry))
                    self.assertEqual(state(book), before)
                    seen.append(told[0])
                self.assertEqual(book.answers, Answers(Rules(marks, rows), things))
                self.assertIs(book.answers.stands(), True)
        self.assertEqual(set(seen), {"yes", "no", "more", "strike yes", "strike thing", Refused, NoRow, NoThing, BadAnswer})

    def test_wrong(self):
        book = done(ABC, [YES, NO])
        before = state(book)
        things = [*any_values(), ("yes", (("d",), ())), ("no", NOTHING, (("a",), ("a",))), list(YES), book, ("strike yes", True)]
        for entry in things + [thing for entry in ENTRIES for thing in put_otherwise(entry, PARTS)]:
            if not is_entry_by_words(ABC, entry):
                self.raised(Wrong, "place", 0, lambda: book.do(entry))
                self.raised(Wrong, "place", 0, lambda: book.cause(entry))
        self.assertEqual(state(book), before)

    def test_no_row_and_no_thing(self):
        book = done(ABC, [YES, NO])
        before = state(book)
        for index in NO_INDEXES:
            for call in [book.do, book.cause]:
                self.raised(NoRow, "index", index, lambda: call(("strike yes", index)))
                self.raised(NoThing, "number", index, lambda: call(("strike thing", index)))
                self.raised(NoThing, "number", index, lambda: call(("more", index, (("c",), ()))))
        for entry, kind in [(("strike yes", 0), NoRow), (("strike thing", 0), NoThing), (MORE, NoThing)]:
            self.raised(kind, None, None, lambda: Book(ABC).do(entry))
        self.assertEqual(state(book), before)

    def test_bad_answer(self):
        book = done(ABC, [YES, NO])
        before = state(book)
        bad = [("no", (("c",), ("b",)), ((), ("b",))), ("no", (("a",), ("b",)), (("a",), ("c",))),
               ("no", (("a",), ("c",)), (("a",), ())), ("no", NOTHING, (("a",), ())), ("no", ((), ABC), NOTHING),
               ("more", 0, (("c",), ())), ("more", 0, ((), ("a",))), ("more", 0, (("b", "c"), ("a",)))]
        for entry in bad:
            for call in [book.do, book.cause]:
                self.raised(BadAnswer, None, None, lambda: call(entry))
        self.assertEqual(state(book), before)

    def test_against_the_rule_by_the_yeses(self):
        # What the yeses give to the thing counts, ahead and behind.
        for rows, rule, thing in [([], (("a",), ("b",)), (("a",), ("b",))), ([(("a",), ("b",))], (("b",), ("c",)), (("a",), ("c",))),
                                  ([(("b",), ("c",))], (("a",), ("b",)), (("a",), ("c",))),
                                  ([(("a", "b"), ("c",))], ((), ("b",)), (("a",), ("c",))), ([], ((), ("a",)), ((), ("a",)))]:
            book = done(ABC, [("yes", row) for row in rows])
            book.do(("no", rule, thing))
            self.assertEqual([book.answers.things(), book[rule]], [[thing], "refuted"])

    def test_refused(self):
        book = done(ABC, [YES, NO])
        book.do(("no", (("c",), ("a",)), (("c",), ("a",))))
        before = state(book)
        causes = [(("yes", (("b",), ("c",))), (0, "c", [0, 1])), (("yes", ((), ABC)), (0, "c", [0, 1])),
                  (("yes", (("c",), ("a",))), (1, "a", [1])), (("more", 0, ((), ("b",))), (0, "b", [0])),
                  (("no", (("a",), ("c",)), (("a",), ("b", "c"))), (2, "b", [0])), (("yes", (("c",), ("b",))), None),
                  (("strike thing", 0), None), (("strike yes", 0), None)]
        for entry, cause in causes:
            self.assertEqual(book.cause(entry), cause)
            if cause is not None:
                self.assertIsInstance(book.cause(entry), tuple)
                error = self.raised(Refused, None, None, lambda: book.do(entry))
                self.assertIs(error.answer, entry)
                self.assertIs(type(error.__cause__), Clash)
                self.assertEqual(error.__cause__.number, cause[0])
            self.assertEqual(state(book), before)

    def test_what_cause_tells_may_be_changed(self):
        book, entry = done(ABC, [YES, NO]), ("yes", (("b",), ("c",)))
        book.cause(entry)[2].clear()
        self.assertEqual(book.cause(entry), (0, "c", [0, 1]))

    def test_sixty_entries(self):
        book = done(ABC, [YES, NO] + [("yes", NOTHING)] * 58)
        before = state(book)
        self.assertEqual(len(book), 60)
        for entry in [("yes", NOTHING), ("strike yes", 0), ("yes", ((), ABC)), ("more", 0, ((), ("b",))), ("strike thing", 0)]:
            self.raised(TooMany, "limit", 60, lambda: book.do(entry))
        for entry, kind in [(("yes", None), Wrong), (("strike yes", 59), NoRow), (("more", 1, NOTHING), NoThing),
                            (("no", NOTHING, NOTHING), BadAnswer), (("more", 0, (("c",), ())), BadAnswer)]:
            self.raised(kind, None, None, lambda: book.do(entry))
        self.assertEqual([book.cause(("yes", NOTHING)), book.cause(("yes", ((), ABC)))], [None, (0, "c", [0, 59])])
        self.assertEqual(state(book), before)
        book.undo()
        self.assertEqual([book.redo(), len(book)], [("yes", NOTHING), 60])
        book.undo()
        book.do(("strike yes", 1))
        self.assertEqual(len(book), 60)

    def test_the_order_of_the_errors(self):
        # A thing that is not against its rule, and that would clash, too.
        book = done(ABC, [YES])
        self.raised(BadAnswer, None, None, lambda: book.do(("no", (("c",), ("b",)), (("a",), ("b",)))))
        self.raised(Refused, None, None, lambda: book.do(("no", (("a",), ("b",)), (("a",), ("b",)))))
        self.raised(NoThing, None, None, lambda: book.do(("more", 0, (("a",), ("b",)))))
        self.raised(Wrong, None, None, lambda: book.do(("more", 0, (("a",), ("a",)))))


class TestItems(Case):

    def test_read(self):
        book = done(ABC, [YES, NO])
        for ahead in [(), ("a",), ("b",), ("a", "c"), ABC]:
            for behind in [(), ("b",), ("c",), ("a", "c")]:
                self.assertEqual(book[(ahead, behind)], book.answers[(ahead, behind)])
        self.assertEqual([book[(("a",), ("b",))], book[(("b",), ("c",))], book[(("c",), ("a",))]], ["sure", "refuted", "open"])

    def test_set(self):
        book = Book(ABC)
        book[(("a",), ("b",))] = None
        book[(("b",), ("c",))] = (("a",), ("c",))
        self.assertEqual([book.log(), book == done(ABC, [YES, NO])], [[YES, NO], True])
        book.undo()
        book[NOTHING] = None
        self.assertEqual([book.log(), redone(book)], [[YES, ("yes", NOTHING)], []])

    def test_set_as_do_does(self):
        book = done(ABC, [YES, NO])
        before = state(book)

        def put(rule, worth):
            book[rule] = worth
        for value in [*any_values(), [], (), YES, (("d",), ()), (("a",),)]:
            self.raised(Wrong, "place", 0, lambda: put(value, None))
            self.raised(Wrong, "place", 0, lambda: put(value, ((), ("a",))))
            if value is not None:
                self.raised(Wrong, "place", 0, lambda: put(((), ("a",)), value))
        self.raised(BadAnswer, None, None, lambda: put(NOTHING, NOTHING))
        error = self.raised(Refused, "answer", ("yes", (("b",), ("c",))), lambda: put((("b",), ("c",)), None))
        self.assertEqual([type(error.__cause__), error.__cause__.number], [Clash, 0])
        self.raised(Refused, "answer", ("no", ((), ("c",)), (("a",), ("b", "c"))), lambda: put(((), ("c",)), (("a",), ("b", "c"))))
        self.assertEqual(state(book), before)
        full = done(ABC, [("yes", NOTHING)] * 60)
        with self.assertRaises(TooMany):
            full[NOTHING] = None


class TestUndo(Case):

    def test_back_and_forth(self):
        entries = [YES, NO, MORE, ("strike yes", 0), ("strike thing", 0)]
        book = done(ABC, entries)
        states = [state(done(ABC, entries[:many])) for many in range(6)]
        for many in range(5, 0, -1):
            self.assertEqual(book.undo(), entries[many - 1])
            self.assertEqual(state(book), states[many - 1][:-1] + [entries[many - 1:]])
        before = state(book)
        self.raised(Nothing, None, None, book.undo)
        self.assertEqual(state(book), before)
        for many in range(5):
            self.assertEqual(book.redo(), entries[many])
            self.assertEqual(state(book), states[many + 1][:-1] + [entries[many + 1:]])
        self.raised(Nothing, None, None, book.redo)
        self.assertEqual(state(book), states[5])

    def test_nothing(self):
        for call in [Book(ABC).undo, Book(ABC).redo, done(ABC, [YES]).redo]:
            self.raised(Nothing, None, None, call)

    def test_a_new_entry_lets_nothing_be_done_again(self):
        book = done(ABC, [YES, NO])
        book.undo()
        book.do(("yes", NOTHING))
        self.raised(Nothing, None, None, book.redo)
        self.assertEqual([book.log(), redone(book)], [[YES, ("yes", NOTHING)], []])

    def test_an_entry_that_is_not_done_changes_nothing_of_it(self):
        book = done(ABC, [YES, NO, MORE])
        book.undo()
        for entry in [None, ("strike yes", 5), ("strike thing", 5), ("no", NOTHING, NOTHING), ("yes", ((), ABC))]:
            with self.assertRaises(TheseError):
                book.do(entry)
            self.assertEqual(redone(book), [MORE])
        book.cause(("yes", ((), ABC)))
        self.assertEqual(book.redo(), MORE)


class TestPast(Case):

    def test_each_number(self):
        book = done(ABC, ENTRIES)
        for many in range(6):
            self.assertEqual(book.past(many), done(ABC, ENTRIES[:many]).answers)
        book.undo()
        self.assertEqual(book.past(4), book.answers)
        self.raised(NoEntry, "many", 5, lambda: book.past(5))

    def test_any_other_value(self):
        for book in [Book(ABC), done(ABC, [YES, NO])]:
            for many in [*any_values(), 3, 4, (), [], "0", (0,), YES]:
                with self.assertRaises(NoEntry) as caught:
                    book.past(many)
                self.assertIs(caught.exception.many, many)


class TestCopied(Case):

    def test_goes_on_by_itself(self):
        book = done(ABC, [YES, NO, MORE])
        book.undo()
        before, copied = state(book), book.copied()
        self.assertEqual([copied == book, copied is book, type(copied), state(copied)], [True, False, Book, before])
        self.assertEqual(copied.redo(), MORE)
        copied.do(("strike thing", 0))
        self.assertEqual(state(book), before)
        book.undo()
        book.do(("yes", NOTHING))
        self.assertEqual([copied.log(), book.log()], [[YES, NO, MORE, ("strike thing", 0)], [YES, ("yes", NOTHING)]])

    def test_of_an_empty_one(self):
        book = Book(ABC)
        copied = book.copied()
        copied.do(YES)
        self.assertEqual([len(book), len(copied), book.answers.yeses.rows()], [0, 1, []])


class TestTrial(Case):

    def book(self):
        book = done(ABC, [YES, NO, MORE])
        book.undo()
        return book

    def test_what_is_returned(self):
        book, value = self.book(), object()
        before = state(book)
        for worth in [value, None, [1], 0]:
            self.assertIs(book.trial(lambda passed: worth), worth)
        self.assertIs(book.trial(lambda passed: passed), book)
        self.assertEqual(state(book), before)

    def test_as_it_was(self):
        book = self.book()
        before = state(book)
        self.assertEqual(book.trial(lambda passed: [passed.redo(), passed.log(), passed.answers.things()]),
                         [MORE, [YES, NO, MORE], [(("a", "b"), ("c",))]])
        self.assertEqual(state(book), before)

        def many_things(passed):
            passed.undo()
            passed.undo()
            passed[((), ("a",))] = None
            passed.do(("yes", ((), ("b",))))
            return [len(passed), passed.answers.yeses.rows(), redone(passed)]
        self.assertEqual(book.trial(many_things), [2, [((), ("a",)), ((), ("b",))], []])
        self.assertEqual(state(book), before)

    def test_that_raises(self):
        book = self.book()
        before = state(book)

        def bad(error):
            def act(passed):
                passed.undo()
                passed.do(("yes", NOTHING))
                raise error
            return act
        for error in [KeyError("a"), Wrong(7), KeyboardInterrupt(), ValueError()]:
            with self.assertRaises(type(error)) as caught:
                book.trial(bad(error))
            self.assertIs(caught.exception, error)
            self.assertEqual(state(book), before)
        self.raised(Refused, "answer", ("yes", ((), ABC)), lambda: book.trial(lambda passed: passed.do(("yes", ((), ABC)))))
        self.assertEqual(state(book), before)

    def test_one_within_another(self):
        book, told = self.book(), []
        before = state(book)

        def inner(passed):
            passed.undo()
            told.append(passed.log())
            raise KeyError("a")

        def outer(passed):
            passed.do(("strike yes", 0))
            within = state(passed)
            with self.assertRaises(KeyError):
                passed.trial(inner)
            self.assertEqual(state(passed), within)
            self.assertEqual(passed.trial(lambda again: again.undo()), ("strike yes", 0))
            self.assertEqual(state(passed), within)
            return passed.undo()
        self.assertEqual([book.trial(outer), told], [("strike yes", 0), [[YES, NO]]])
        self.assertEqual(state(book), before)
        self.assertEqual(book.redo(), MORE)


class TestComparing(Case):

    def test_equal(self):
        book = done(ABC, [YES, NO, MORE])
        book.undo()
        self.assertTrue(book == done(ABC, [YES, NO]))
        self.assertFalse(book != done(ABC, [YES, NO]))
        self.assertTrue(Book(()) == Book(()))
        self.assertFalse(book == done(ABC, [YES, NO, MORE]))
        self.assertTrue(book != Book(ABC))
        self.assertFalse(Book(ABC) == Book(ABCD))
        self.assertFalse(done(ABC, [YES, ("yes", NOTHING)]) == done(ABC, [("yes", NOTHING), YES]))

    def test_the_log_counts_and_not_the_answers(self):
        self.assertFalse(done(ABC, [YES, ("strike yes", 0)]) == Book(ABC))
        self.assertTrue(done(ABC, [YES, ("strike yes", 0)]).answers == Book(ABC).answers)

    def test_equal_to_nothing_else(self):
        book = done(ABC, [YES])
        for thing in [*any_values(), [], [YES], (ABC, [YES]), book.answers, Rules(ABC, []), Table(ABC, []), Rules(ABC, [YES[1]])]:
            for one in [book, Book(ABC)]:
                self.assertIs(one == thing, False)
                self.assertIs(one != thing, True)
                self.assertIs(thing == one, False)


if __name__ == "__main__":
    unittest.main()
