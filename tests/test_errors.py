"""The interface of lentgate/errors.py."""

import unittest

from lentgate.errors import GateError, NoDeed, NoForm, NoPlan, NoRow, NoRule

REFUSALS = [NoForm, NoDeed, NoRule, NoPlan, NoRow]


class Errors(unittest.TestCase):
    def test_gate_error_is_a_value_error(self):
        self.assertTrue(issubclass(GateError, ValueError))
        self.assertFalse(any(issubclass(GateError, refusal) for refusal in REFUSALS))

    def test_each_refusal_stands_under_gate_error(self):
        for refusal in REFUSALS:
            self.assertTrue(issubclass(refusal, GateError), refusal)
            self.assertTrue(issubclass(refusal, ValueError), refusal)

    def test_no_refusal_stands_under_another(self):
        for refusal in REFUSALS:
            for other in REFUSALS:
                self.assertEqual(issubclass(refusal, other), refusal is other, (refusal, other))

    def test_names(self):
        self.assertEqual([refusal.__name__ for refusal in [GateError] + REFUSALS],
                         ["GateError", "NoForm", "NoDeed", "NoRule", "NoPlan", "NoRow"])

    def test_each_is_raised_and_taken(self):
        for refusal in REFUSALS:
            for taken in (refusal, GateError, ValueError):
                with self.assertRaises(taken):
                    raise refusal("why")


if __name__ == "__main__":
    unittest.main()
