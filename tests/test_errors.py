"""[3]: the refusals and their value `at`."""

import unittest

from bestcalls import errors

CLASSES = [
    "NoWeb", "NoKind", "NoBook", "NoCall", "NoRule", "NoFit", "Quarrel", "NoProgram", "NoDeed", "TooDeep", "TooLong",
    "NoName", "Taken", "Full", "Twice", "NoStep", "Needed", "NoText", "NoRow",
]


class TestErrors(unittest.TestCase):

    def test_there_are_nineteen_straight_under_call_error(self):
        self.assertEqual(len(CLASSES), 19)
        self.assertEqual(errors.CallError.__bases__, (ValueError,))
        for name in CLASSES:
            self.assertEqual(getattr(errors, name).__bases__, (errors.CallError,), name)

    def test_each_has_its_at(self):
        for name in ["CallError"] + CLASSES:
            for at in (None, 0, 7, "a", "", ("a", 1), ("a", ("b", "c"), ("d",)), [], [1, {"a": None}], 10 ** 99):
                made = getattr(errors, name)
                self.assertIs(made(at).at, at)
                self.assertIs(made(at=at).at, at)
                self.assertIsInstance(str(made(at)), str)

    def test_each_is_caught_by_its_own_name_and_as_any(self):
        for name in CLASSES:
            own = getattr(errors, name)
            for other in CLASSES:
                self.assertEqual(issubclass(own, getattr(errors, other)), name == other)
            with self.assertRaises(errors.CallError):
                raise own(3)


if __name__ == "__main__":
    unittest.main()
