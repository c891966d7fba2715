"""Promises 1.1 and 1.2: the errors, from what they are derived, and what they keep."""

import unittest

from chainpacks import errors
from wrong_values import not_integers

MESSAGES = (
    errors.PackError, errors.InvalidSizes, errors.InvalidLot, errors.InvalidStore, errors.InvalidPacking,
    errors.InvalidPaper, errors.InvalidOperation,
)
KEEPERS = (
    (errors.ParseError, "line", errors.PackError), (errors.UnknownName, "word", KeyError),
    (errors.NoRoom, "size", LookupError), (errors.InvalidNumber, "value", IndexError),
    (errors.NothingToUndo, "many", RuntimeError), (errors.TooMany, "limit", OverflowError),
    (errors.NoChain, "gap", ArithmeticError),
)


class TestBases(unittest.TestCase):
    def test_pack_error_is_a_value_error(self):
        self.assertEqual(errors.PackError.__bases__, (ValueError,))

    def test_errors_of_wrong_forms_are_directly_pack_errors(self):
        for kind in MESSAGES[1:] + (errors.ParseError,):
            self.assertEqual(kind.__bases__, (errors.PackError,), kind)

    def test_other_errors_are_directly_errors_of_python(self):
        for kind, _, base in KEEPERS:
            self.assertEqual(kind.__bases__, (base,), kind)

    def test_all_are_defined_in_the_module(self):
        for kind in MESSAGES + tuple(kind for kind, _, _ in KEEPERS):
            self.assertEqual(kind.__module__, "chainpacks.errors")


class TestKeeping(unittest.TestCase):
    def test_messages_are_taken(self):
        for kind in MESSAGES:
            with self.assertRaises(kind) as caught:
                raise kind("a message")
            self.assertEqual(caught.exception.args, ("a message",))

    def test_any_value_is_kept_as_it_is(self):
        for kind, name, _ in KEEPERS:
            for value in not_integers() + [0, 1, 12, (2, 3)]:
                with self.assertRaises(kind) as caught:
                    raise kind(value)
                self.assertIs(getattr(caught.exception, name), value)

    def test_what_is_kept_is_taken_under_its_name(self):
        for kind, name, _ in KEEPERS:
            self.assertEqual(getattr(kind(**{name: [7]}), name), [7])

    def test_exactly_one_value_is_taken(self):
        for kind, _, _ in KEEPERS:
            for values in ((), (1, 2)):
                with self.assertRaises(TypeError):
                    kind(*values)


if __name__ == "__main__":
    unittest.main()
