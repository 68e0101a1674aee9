"""[20], and what [4] says of errors."""

import unittest

from thesesothose import errors
from thesesothose.errors import TheseError

FIELDS = {
    "Wrong": ["place"], "NoRow": ["index"], "NoThing": ["number"], "NoLot": ["lot"], "NoNumber": ["number"],
    "NoMark": ["mark"], "Clash": ["number"], "NotPossible": [], "Unlike": [], "TooMany": ["limit"],
    "Refused": ["answer"], "BadAnswer": [], "Nothing": [], "NoEntry": ["many"], "NoText": [], "NoCommand": [],
}


class TestErrors(unittest.TestCase):

    def test_the_base(self):
        self.assertEqual(TheseError.__bases__, (ValueError,))

    def test_each_is_a_direct_subclass(self):
        for name in FIELDS:
            self.assertEqual(getattr(errors, name).__bases__, (TheseError,), name)

    def test_there_are_no_others(self):
        names = [name for name, value in vars(errors).items() if isinstance(value, type)]
        self.assertEqual(sorted(names), sorted([*FIELDS, "TheseError"]))

    def test_fields_are_the_very_objects(self):
        for name, fields in FIELDS.items():
            for value in [object(), [1, [2]], {"a": []}, None, True, 0, "a", ("a",), 10 ** 40, TheseError]:
                error = getattr(errors, name)(*[value for _ in fields])
                for field in fields:
                    self.assertIs(getattr(error, field), value, name)

    def test_fields_by_keyword(self):
        for name, fields in FIELDS.items():
            value = object()
            error = getattr(errors, name)(**{field: value for field in fields})
            self.assertEqual(vars(error), {field: value for field in fields})

    def test_each_is_raised_and_caught(self):
        for name, fields in FIELDS.items():
            error_class = getattr(errors, name)
            for base in (error_class, TheseError, ValueError):
                with self.assertRaises(base):
                    raise error_class(*[[] for _ in fields])

    def test_fields_are_not_copied(self):
        index = [1]
        error = errors.NoRow(index)
        index.append(2)
        self.assertEqual(error.index, [1, 2])

    def test_these_error_takes_none_or_any(self):
        for values in [(), ("a",), (1, [2], None), (object(),)]:
            self.assertIsInstance(TheseError(*values), ValueError)
            with self.assertRaises(TheseError):
                raise TheseError(*values)


if __name__ == "__main__":
    unittest.main()
