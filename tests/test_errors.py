"""The errors that the interface lists, and how they hang together."""

import unittest

from lastleft import errors

KINDS = ("BadBoard", "BadWiping", "BadLast", "BadCount", "NeverLast")


class ErrorsTest(unittest.TestCase):
    def test_last_error_is_straight_under_value_error(self):
        self.assertEqual(errors.LastError.__bases__, (ValueError,))

    def test_each_kind_is_straight_under_last_error(self):
        for name in KINDS:
            with self.subTest(name):
                self.assertEqual(getattr(errors, name).__bases__, (errors.LastError,))

    def test_the_kinds_are_unlike(self):
        kinds = {getattr(errors, name) for name in KINDS}
        self.assertEqual(len(kinds), len(KINDS))

    def test_each_is_defined_in_its_own_file_under_its_own_name(self):
        for name in ("LastError",) + KINDS:
            with self.subTest(name):
                kind = getattr(errors, name)
                self.assertEqual(kind.__module__, "lastleft.errors")
                self.assertEqual(kind.__name__, name)

    def test_each_kind_is_caught_by_itself_and_by_those_above_it_alone(self):
        for name in KINDS:
            kind = getattr(errors, name)
            with self.subTest(name):
                for above in (kind, errors.LastError, ValueError):
                    with self.assertRaises(above):
                        raise kind("refused")
                for other in KINDS:
                    if other != name:
                        self.assertNotIsInstance(kind("refused"), getattr(errors, other))


if __name__ == "__main__":
    unittest.main()
