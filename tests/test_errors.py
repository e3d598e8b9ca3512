"""[4]: the errors."""

import unittest

from ledmarks import errors
from things import ANY

# name -> (direct base, the names of its arguments)
ERRORS = {
    "InvalidRow": ("MarkError", ["word"]),
    "InvalidTool": ("MarkError", ["word"]),
    "InvalidText": ("MarkError", ["at"]),
    "InvalidEdition": ("MarkError", ["at"]),
    "InvalidStory": ("MarkError", ["at"]),
    "InvalidFault": ("MarkError", []),
    "InvalidCommand": ("MarkError", []),
    "Refused": ("MarkError", ["at"]),
    "NoRow": ("IndexError", ["at"]),
    "NoEvent": ("IndexError", ["at"]),
    "NoMark": ("KeyError", ["name"]),
}
BASES = {"MarkError": errors.MarkError, "IndexError": IndexError, "KeyError": KeyError}


class TestErrors(unittest.TestCase):
    def test_mark_error(self):
        self.assertEqual(errors.MarkError.__bases__, (ValueError,))

    def test_bases(self):
        for name, (base, _) in ERRORS.items():
            with self.subTest(name):
                self.assertEqual(getattr(errors, name).__bases__, (BASES[base],))

    def test_none_derives_from_another(self):
        for name in ERRORS:
            for other in ERRORS:
                if name != other:
                    self.assertFalse(issubclass(getattr(errors, name), getattr(errors, other)), (name, other))

    def test_those_of_python_are_no_mark_errors(self):
        for name in ("NoRow", "NoEvent", "NoMark"):
            self.assertFalse(issubclass(getattr(errors, name), ValueError), name)

    def test_arguments_are_kept_themselves(self):
        for name, (_, arguments) in ERRORS.items():
            for thing in [*ANY, {}, object()]:
                for argument in arguments:
                    for error in (getattr(errors, name)(thing), getattr(errors, name)(**{argument: thing})):
                        self.assertIs(getattr(error, argument), thing)

    def test_a_changed_argument_is_kept_itself(self):
        value = ["a"]
        error = errors.NoMark(value)
        value.append("b")
        self.assertIs(error.name, value)
        self.assertEqual(error.name, ["a", "b"])

    def test_without_arguments(self):
        for name, (_, arguments) in ERRORS.items():
            if not arguments:
                with self.assertRaises(getattr(errors, name)):
                    raise getattr(errors, name)()

    def test_they_are_raised_and_caught(self):
        with self.assertRaises(IndexError) as caught:
            raise errors.NoRow(-1)
        self.assertEqual(caught.exception.at, -1)
        with self.assertRaises(KeyError) as caught:
            raise errors.NoMark("x")
        self.assertEqual(caught.exception.name, "x")
        for name, (base, arguments) in ERRORS.items():
            if base == "MarkError":
                with self.assertRaises(ValueError):
                    raise getattr(errors, name)(*arguments)

    def test_they_are_defined_in_their_module(self):
        for name in ["MarkError", *ERRORS]:
            self.assertEqual(getattr(errors, name).__module__, "ledmarks.errors")


if __name__ == "__main__":
    unittest.main()
