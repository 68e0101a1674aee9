"""What the document defines, written down anew by trying everything, to test the program against."""

import random
from functools import lru_cache
from itertools import combinations

ABC = ("a", "b", "c")
ABCD = ("a", "b", "c", "d")
TEN = tuple("abcdefghij")


def nested(depth):
    value = []
    for _ in range(depth - 1):
        value = [value]
    return value


def any_values():
    """Values of many kinds, none of which is a lot, a rule, an index from 0 on, or a list or a tuple of some."""
    return [
        True, False, None, -1, -2, 10 ** 39, -10 ** 39, "", "a", "ab", "A", "0", b"a", b"",
        [None], ["a"], [["a"]], [[], []], [(("a",), ("b",), ("c",))], ["1"], [True], ["a", "b"], [[()]],
        (1,), (True,), (None,), ("A",), ("",), ("abcdefghi",), ("b", "a"), ("a", "a"), ((("a",),),), (["a"], ["b"]),
        {}, {"a": "b"}, {"a": ["b"]}, {1: 2}, {(): ()}, {"a"}, frozenset(), range(2), slice(0, 1),
        object(), ValueError, ValueError("a"), len, any_values, nested(16), ["a"] * 1999, ("a",) * 1999,
    ]


def lots_within(marks):
    """All lots within a lot of marks, in order."""
    return [lot for many in range(len(marks) + 1) for lot in combinations(marks, many)]


def rules_of(marks):
    """All rules of some marks, in order."""
    return [(ahead, behind) for ahead in lots_within(marks) for behind in lots_within(marks)]


def keeps(lot, rule):
    return not set(rule[0]) <= set(lot) or set(rule[1]) <= set(lot)


def closed_by_rows(marks, rows):
    return [lot for lot in lots_within(marks) if all(keeps(lot, row) for row in rows)]


def closing_by_rows(marks, rows, lot):
    """The closed lot that holds a lot and is within each closed lot that holds it."""
    return _closing_by_rows(marks, tuple(rows), lot)


@lru_cache(maxsize=None)
def _closing_by_rows(marks, rows, lot):
    holding = [other for other in closed_by_rows(marks, rows) if set(lot) <= set(other)]
    return [one for one in holding if all(set(one) <= set(other) for other in holding)][0]


def closing_by_table(marks, lots, lot):
    holding = [other for other in lots if set(lot) <= set(other)]
    return tuple(mark for mark in marks if all(mark in other for other in holding))


def closing_by(theory, lot):
    """The closing of a lot by a Rules or a Table, by what it lists."""
    if hasattr(theory, "rows"):
        return closing_by_rows(theory.marks, theory.rows(), lot)
    return closing_by_table(theory.marks, theory.lots(), lot)


def some_lot(chance, marks):
    return tuple(mark for mark in marks if chance.random() < 0.4)


def some_rows(chance, marks, many):
    return [(some_lot(chance, marks), some_lot(chance, marks)) for _ in range(many)]


def row_lists():
    """Pairs of marks and a list of rows: small ones, drawn once for all."""
    chance = random.Random(20)
    drawn = [((), []), ((), [((), ())]), (("a",), []), (ABC, []), (ABC, [((), ())]), (ABC, [((), ("b",))])]
    for marks in [("a", "b"), ABC, ABCD, ("a", "ab", "abc", "b", "ba")]:
        drawn += [(marks, some_rows(chance, marks, many)) for many in (1, 2, 3, 4, 6)]
    return drawn


def lot_lists():
    """Pairs of marks and a list of lots: small ones, drawn once for all."""
    chance = random.Random(32)
    drawn = [((), []), ((), [()]), (("a",), []), (ABC, []), (ABC, [()]), (ABC, [ABC]), (ABC, [("b",), ("b",)])]
    for marks in [("a", "b"), ABC, ABCD, ("a", "ab", "abc", "b", "ba")]:
        drawn += [(marks, [some_lot(chance, marks) for _ in range(many)]) for many in (1, 2, 3, 4, 6)]
    return drawn


def fits(lot, thing):
    return set(thing[0]) <= set(lot) and not set(thing[1]) & set(lot)


def things_of(marks):
    """All things of some marks, in order."""
    return [pair for pair in rules_of(marks) if not set(pair[0]) & set(pair[1])]


def some_thing(chance, marks):
    has = some_lot(chance, marks)
    return (has, tuple(mark for mark in some_lot(chance, marks) if mark not in has))


def tables_that_fit(marks, rows, things):
    """All tables of different lots that fit answers, by trying them all; no others could have lots that break a row."""
    kept = closed_by_rows(marks, rows)
    tables = [lots for many in range(len(kept) + 1) for lots in combinations(kept, many)]
    return [lots for lots in tables if all(any(fits(lot, thing) for lot in lots) for thing in things)]


def answers_lists():
    """Triples of marks, rows and things: small ones, drawn once for all; some do not stand."""
    chance = random.Random(51)
    drawn = [((), [], []), ((), [], [((), ())]), (("a",), [], []), (ABC, [], []), (ABC, [], [((), ())]),
             (ABC, [((), ("a",))], [((), ("a",))]), (ABC, [(("a",), ("b",))], [(("c",), ()), (("a",), ("b", "c"))]),
             (ABC, [(("a",), ("b",)), (("b",), ("c",))], [(ABC, ()), (ABC, ())])]
    for marks in [("a", "b"), ABC, ("a", "ab", "b")]:
        for yeses, many in [(0, 1), (1, 1), (1, 2), (2, 2), (2, 3), (3, 4), (4, 2), (1, 6)]:
            drawn.append((marks, some_rows(chance, marks, yeses), [some_thing(chance, marks) for _ in range(many)]))
    return drawn


def closed_by(theory):
    """The list of the closed lots of a theory, in order."""
    return [lot for lot in lots_within(theory.marks) if closing_by(theory, lot) == lot]


def least_among(lots):
    return [one for one in lots if not any(set(other) < set(one) for other in lots)]


def narrow_by_words(theory):
    """The list of the tuples of a narrow lot and its one next lot, in order."""
    return narrow_among(tuple(closed_by(theory)))


@lru_cache(maxsize=None)
def narrow_among(closed):
    above = [(lot, least_among([other for other in closed if set(lot) < set(other)])) for lot in closed]
    return [(lot, least[0]) for lot, least in above if len(least) == 1]


def some_truth(chance, theory, yeses, many):
    """Rows that follow from a theory, and things that it does not bar."""
    aheads = [some_lot(chance, theory.marks) for _ in range(yeses)]
    things = []
    for _ in range(many):
        lot = chance.choice(closed_by(theory))
        has = tuple(mark for mark in lot if chance.random() < 0.7)
        things.append((has, tuple(mark for mark in theory.marks if mark not in lot and chance.random() < 0.7)))
    return [(ahead, some_lot(chance, closing_by(theory, ahead))) for ahead in aheads], things


def clash_lists():
    """Triples of marks, rows and things that often do not stand, drawn once for all."""
    chance = random.Random(70)
    drawn = [triple for triple in answers_lists() if len(triple[1]) < 5]
    for marks in [("a", "b"), ABC, ABCD]:
        for yeses, many in [(2, 1), (3, 2), (4, 2), (5, 3), (6, 4), (4, 5)]:
            rows = [((chance.choice(marks),), (chance.choice(marks),)) for _ in range(yeses)]
            drawn.append((marks, rows, [some_thing(chance, marks) for _ in range(many)]))
    return drawn
