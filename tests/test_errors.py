"""The errors: what they derive from, and what they keep."""

import unittest

from tablerings import errors
from tests.samples import junk

DIRECT = ("InvalidRing", "InvalidRoom", "InvalidRow", "InvalidTable", "InvalidSpace", "InvalidPoly", "InvalidWeb",
          "InvalidOperation", "ParseError")
KEEPING = (("InvalidNumber", IndexError, "given"), ("UnknownName", KeyError, "wanted"),
           ("TooMany", OverflowError, "most"), ("Refused", ArithmeticError, "reason"),
           ("NothingToUndo", LookupError, "steps"))


class ErrorsTest(unittest.TestCase):
    def test_the_base(self):
        self.assertEqual(errors.RingError.__bases__, (ValueError,))

    def test_ring_errors_derive_directly_from_it(self):
        for name in DIRECT:
            self.assertEqual(getattr(errors, name).__bases__, (errors.RingError,), name)

    def test_the_others_derive_directly_from_pythons_own(self):
        for name, base, _ in KEEPING:
            self.assertEqual(getattr(errors, name).__bases__, (base,), name)

    def test_they_keep_what_they_take(self):
        for name, _, kept in KEEPING + (("ParseError", None, "spot"),):
            for value in junk() + [(1, 2), "word", 10 ** 60]:
                self.assertIs(getattr(getattr(errors, name)(value), kept), value)

    def test_the_others_take_a_message(self):
        for name in DIRECT[:-1] + ("RingError",):
            with self.assertRaises(ValueError):
                raise getattr(errors, name)("a message")


if __name__ == "__main__":
    unittest.main()
