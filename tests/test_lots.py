"""[21], lots, with the order of [2]."""

import unittest
from itertools import combinations

from tests.plain import ABCD, TEN
from thesesothose.lots import all_lots, comes_before, common, in_order, joined, lot_of, within, without

IN_ORDER = [(), ("a",), ("ab",), ("b",), ("a", "ab"), ("a", "b"), ("ab", "b"), ("a", "ab", "b")]


class TestLots(unittest.TestCase):

    def test_lot_of(self):
        self.assertEqual(lot_of([]), ())
        self.assertEqual(lot_of(["b", "a", "b"]), ("a", "b"))
        self.assertEqual(lot_of(["c", "b", "a"]), ("a", "b", "c"))
        self.assertEqual(lot_of(["b", "ab", "a", "ab", "ab"]), ("a", "ab", "b"))

    def test_lot_of_leaves_its_list(self):
        marks = ["b", "a", "b"]
        lot_of(marks)
        self.assertEqual(marks, ["b", "a", "b"])

    def test_all_lots(self):
        self.assertEqual(all_lots(()), [()])
        self.assertEqual(all_lots(("a",)), [(), ("a",)])
        self.assertEqual(all_lots(("a", "ab", "b")), IN_ORDER)

    def test_all_lots_of_ten_marks(self):
        self.assertEqual(all_lots(TEN), [lot for many in range(11) for lot in combinations(TEN, many)])

    def test_all_lots_may_be_changed(self):
        all_lots(("a",)).clear()
        self.assertEqual(all_lots(("a",)), [(), ("a",)])

    def test_in_order(self):
        self.assertEqual(in_order([]), [])
        self.assertEqual(in_order(IN_ORDER[::-1]), IN_ORDER)
        self.assertEqual(in_order([("b",), (), ("a", "b"), ("b",), ()]), [(), (), ("b",), ("b",), ("a", "b")])

    def test_in_order_leaves_its_list(self):
        lots = [("b",), ("a",)]
        result = in_order(lots)
        result.append(())
        self.assertEqual(lots, [("b",), ("a",)])

    def test_comes_before(self):
        for place, one in enumerate(IN_ORDER):
            for other_place, other in enumerate(IN_ORDER):
                self.assertIs(comes_before(one, other), place < other_place)

    def test_pairs_of_lots(self):
        for one in all_lots(ABCD):
            for other in all_lots(ABCD):
                self.assertIs(within(one, other), set(one) <= set(other))
                self.assertEqual(joined(one, other), tuple(sorted(set(one) | set(other))))
                self.assertEqual(common(one, other), tuple(sorted(set(one) & set(other))))
                self.assertEqual(without(one, other), tuple(sorted(set(one) - set(other))))

    def test_whole_marks_are_compared(self):
        self.assertIs(within(("a",), ("ab",)), False)
        self.assertEqual(common(("a", "b"), ("ab",)), ())
        self.assertEqual(without(("a", "ab"), ("ab", "b")), ("a",))
        self.assertEqual(joined(("b",), ("a", "ab")), ("a", "ab", "b"))


if __name__ == "__main__":
    unittest.main()
