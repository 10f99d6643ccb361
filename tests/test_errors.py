"""The interface under gatewhole/errors.py."""

import unittest

from gatewhole import errors

NAMES = ["NoGate", "NoClass", "NoInputs", "NoFormula", "NoTable", "NotMade", "NoNote"]


class Errors(unittest.TestCase):
    def test_gate_error_stands_straight_under_value_error(self):
        self.assertEqual(errors.GateError.__bases__, (ValueError,))

    def test_each_refusal_stands_straight_under_gate_error(self):
        for name in NAMES:
            with self.subTest(name=name):
                self.assertEqual(getattr(errors, name).__bases__, (errors.GateError,))

    def test_each_refusal_is_a_class_of_its_own_under_its_name(self):
        self.assertEqual(len({getattr(errors, name) for name in NAMES}), 7)
        for name in NAMES + ["GateError"]:
            with self.subTest(name=name):
                self.assertEqual(getattr(errors, name).__name__, name)

    def test_a_refusal_is_taken_as_gate_error_and_as_value_error(self):
        for name in NAMES:
            with self.subTest(name=name):
                for base in (errors.GateError, ValueError):
                    with self.assertRaises(base):
                        raise getattr(errors, name)("words")


if __name__ == "__main__":
    unittest.main()
