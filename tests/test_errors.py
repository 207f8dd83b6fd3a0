"""[0.16] to [0.18]: the errors, from what they are derived, and what they keep."""

import builtins
import copy
import unittest

from keywise import errors

MESSAGE_ERRORS = (
    "InvalidRow", "InvalidRule", "InvalidPartial", "InvalidFormula", "InvalidPolicy", "InvalidLevels",
    "InvalidOperation", "InvalidMessage", "InvalidEdit", "ParseError", "InvalidCommand",
)
VALUE_ERRORS = (
    ("InvalidNumber", "value", IndexError), ("UnknownName", "name", KeyError), ("TooLarge", "limit", OverflowError),
    ("Broken", "rows", ArithmeticError), ("Refused", "pattern", LookupError),
    ("NothingToUndo", "many", RuntimeError),
)
KEPT = (None, 0, True, 60, "name", "", (), ((0, 1), (1, 0)), ((0, 0), (1, 1)), [1], {0: 1}, 10 ** 39)
BUILTIN_ERRORS = [kind for kind in vars(builtins).values() if isinstance(kind, type) and issubclass(kind, Exception)]


def own_errors():
    return {name: kind for name, kind in vars(errors).items() if isinstance(kind, type)}


def caught_as(error, kind):
    try:
        raise error
    except kind:
        return True
    except BaseException:
        return False


class Errors(unittest.TestCase):
    def test_all_errors_are_there_and_no_others(self):
        listed = ["KeywiseError", *MESSAGE_ERRORS, *[name for name, _, _ in VALUE_ERRORS]]
        self.assertEqual(sorted(own_errors()), sorted(listed))
        for name, kind in own_errors().items():
            self.assertEqual((kind.__name__, kind.__module__), (name, "keywise.errors"))

    def test_direct_bases(self):
        self.assertEqual(errors.KeywiseError.__bases__, (ValueError,))
        for name in MESSAGE_ERRORS:
            self.assertEqual(getattr(errors, name).__bases__, (errors.KeywiseError,), name)
        for name, _, base in VALUE_ERRORS:
            self.assertEqual(getattr(errors, name).__bases__, (base,), name)

    def test_messages(self):
        for name in ("KeywiseError",) + MESSAGE_ERRORS:
            for message in ("", "a message", "two\nlines"):
                self.assertEqual(str(getattr(errors, name)(message)), message, name)

    def test_attributes(self):
        for name, attribute, _ in VALUE_ERRORS:
            for value in KEPT:
                error = getattr(errors, name)(value)
                self.assertEqual(vars(error), {attribute: value}, name)
                self.assertIs(getattr(error, attribute), value)
                self.assertEqual(vars(copy.copy(error)), {attribute: value})

    def test_wrong_numbers_of_values(self):
        for name, _, _ in VALUE_ERRORS:
            self.assertRaises(TypeError, getattr(errors, name))
            self.assertRaises(TypeError, getattr(errors, name), 1, 2)

    def test_caught_as_its_classes_and_as_no_other_own_error(self):
        bases = {"KeywiseError": ValueError, **{name: ValueError for name in MESSAGE_ERRORS}}
        bases.update({name: base for name, _, base in VALUE_ERRORS})
        for name, base in bases.items():
            error = getattr(errors, name)("told")
            own = {name, "KeywiseError"} if name in MESSAGE_ERRORS else {name}
            for other, kind in own_errors().items():
                self.assertEqual(caught_as(error, kind), other in own, (name, other))
            for kind in BUILTIN_ERRORS:
                self.assertEqual(caught_as(error, kind), issubclass(base, kind), (name, kind))


if __name__ == "__main__":
    unittest.main()
