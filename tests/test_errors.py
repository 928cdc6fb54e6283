import unittest

from lesssay import errors

REFUSALS = ["NoRule", "NoReason", "NoLetter", "NoRung", "NoText", "NoName", "TooMany"]


class Refusals(unittest.TestCase):
    def test_base_stands_straight_under_value_error(self):
        self.assertEqual(errors.SayError.__bases__, (ValueError,))

    def test_each_stands_straight_under_the_base(self):
        for name in REFUSALS:
            self.assertEqual(getattr(errors, name).__bases__, (errors.SayError,), name)

    def test_each_is_caught_as_base_and_as_value_error(self):
        for name in REFUSALS:
            for base in (errors.SayError, ValueError):
                with self.assertRaises(base):
                    raise getattr(errors, name)("why")

    def test_none_is_caught_as_another(self):
        for name in REFUSALS:
            for other in REFUSALS:
                refusal = getattr(errors, name)("why")
                self.assertEqual(isinstance(refusal, getattr(errors, other)), name == other, (name, other))


if __name__ == "__main__":
    unittest.main()
