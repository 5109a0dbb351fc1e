"""Point 3: the refusals."""

import unittest

from dueturns import errors
from dueturns.errors import DueError, NoBook, NoPlan, NoRow

WITH_AT = ("NoPlan", "NoRow", "NoBook")
WITH_TEXT = (
    "NoFraction", "NoTurns", "NoClaimant", "NoBound", "NoNumber", "NoStep", "NoRunning", "NoSentence", "TooMany",
    "NoText", "NoDeed",
)


class Errors(unittest.TestCase):
    def test_due_error_stands_right_under_value_error(self):
        self.assertEqual(DueError.__bases__, (ValueError,))
        self.assertEqual(str(DueError("why")), "why")

    def test_each_stands_right_under_due_error(self):
        for name in WITH_AT + WITH_TEXT:
            self.assertEqual(getattr(errors, name).__bases__, (DueError,), name)

    def test_none_stands_under_another_one(self):
        kinds = [getattr(errors, name) for name in WITH_AT + WITH_TEXT]
        for one in kinds:
            for other in kinds:
                self.assertEqual(issubclass(one, other), one is other)

    def test_no_others_are_there(self):
        names = [name for name, thing in vars(errors).items() if isinstance(thing, type)]
        self.assertEqual(sorted(names), sorted(WITH_AT + WITH_TEXT + ("DueError",)))

    def test_field_at_is_kept(self):
        for kind in (NoPlan, NoRow, NoBook):
            for at in (-1, 0, 7):
                self.assertEqual(kind(at).at, at)
            with self.assertRaises(TypeError):
                kind()

    def test_texts_are_kept(self):
        for name in WITH_TEXT:
            self.assertEqual(str(getattr(errors, name)("why")), "why")

    def test_they_are_caught_as_due_errors_and_value_errors(self):
        for name in WITH_AT + WITH_TEXT:
            for caught in (DueError, ValueError):
                with self.assertRaises(caught):
                    raise getattr(errors, name)(0 if name in WITH_AT else "why")
