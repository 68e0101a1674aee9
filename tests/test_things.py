"""[50]."""

import unittest

from tests.plain import ABC, ABCD, lots_within, things_of
from thesesothose.things import fillings, fits, full_thing, is_full, told_more, untold

NONE_TOLD = ((), ())


class TestFull(unittest.TestCase):

    def test_by_looking_at_all_marks(self):
        for marks in [(), ("a",), ABC, ABCD, ("a", "ab", "b")]:
            for has, lacks in things_of(marks):
                left = tuple(mark for mark in marks if mark not in has and mark not in lacks)
                self.assertEqual(untold(marks, (has, lacks)), left)
                self.assertIs(is_full(marks, (has, lacks)), left == ())

    def test_nothing_and_everything_told(self):
        self.assertEqual([untold(ABC, NONE_TOLD), is_full(ABC, NONE_TOLD)], [ABC, False])
        self.assertEqual([untold((), NONE_TOLD), is_full((), NONE_TOLD)], [(), True])
        for thing in [(ABC, ()), ((), ABC), (("b",), ("a", "c"))]:
            self.assertEqual([untold(ABC, thing), is_full(ABC, thing)], [(), True])

    def test_full_thing(self):
        for marks in [(), ("a",), ABC, ("a", "ab", "b")]:
            for lot in lots_within(marks):
                told = full_thing(marks, lot)
                self.assertEqual(told, (lot, tuple(mark for mark in marks if mark not in lot)))
                self.assertEqual([other for other in lots_within(marks) if fits(other, told)], [lot])


class TestFits(unittest.TestCase):

    def test_by_looking_at_all_marks(self):
        for lot in lots_within(ABC):
            for has, lacks in things_of(ABC):
                told = all(mark in lot for mark in has) and not any(mark in lot for mark in lacks)
                self.assertIs(fits(lot, (has, lacks)), told)

    def test_nothing_and_everything_told(self):
        self.assertEqual([fits(lot, NONE_TOLD) for lot in lots_within(ABC)], [True] * 8)
        self.assertEqual([fits((), ((), ABC)), fits(("a",), ((), ABC)), fits(ABC, (ABC, ()))], [True, False, True])


class TestToldMore(unittest.TestCase):

    def test_by_looking_at_all_marks(self):
        for thing in things_of(ABC):
            for more in things_of(ABC):
                has = tuple(mark for mark in ABC if mark in thing[0] or mark in more[0])
                lacks = tuple(mark for mark in ABC if mark in thing[1] or mark in more[1])
                told = None if any(mark in lacks for mark in has) else (has, lacks)
                self.assertEqual(told_more(thing, more), told)

    def test_what_fits_both_fits(self):
        for thing in things_of(("a", "b")):
            for more in things_of(("a", "b")):
                both = [lot for lot in lots_within(("a", "b")) if fits(lot, thing) and fits(lot, more)]
                told = told_more(thing, more)
                self.assertEqual(both, [] if told is None else fillings(("a", "b"), told))

    def test_both_had_and_lacked(self):
        self.assertIsNone(told_more((("a",), ()), ((), ("a",))))
        self.assertIsNone(told_more(((), ("a", "b")), (("b", "c"), ())))
        self.assertEqual(told_more((("a",), ("b",)), (("a", "c"), ("b",))), (("a", "c"), ("b",)))
        self.assertEqual(told_more(NONE_TOLD, NONE_TOLD), NONE_TOLD)


class TestFillings(unittest.TestCase):

    def test_by_looking_at_all_lots(self):
        for marks in [(), ("a",), ABC, ABCD, ("a", "ab", "b")]:
            for thing in things_of(marks):
                self.assertEqual(fillings(marks, thing), [lot for lot in lots_within(marks) if fits(lot, thing)])

    def test_nothing_and_everything_told(self):
        self.assertEqual(fillings(ABC, NONE_TOLD), lots_within(ABC))
        self.assertEqual([fillings(ABC, (ABC, ())), fillings(ABC, ((), ABC)), fillings((), NONE_TOLD)], [[ABC], [()], [()]])
        self.assertEqual(fillings(ABC, (("b",), ())), [("b",), ("a", "b"), ("b", "c"), ABC])

    def test_what_is_returned_may_be_changed(self):
        fillings(ABC, NONE_TOLD).clear()
        self.assertEqual(len(fillings(ABC, NONE_TOLD)), 8)


if __name__ == "__main__":
    unittest.main()
