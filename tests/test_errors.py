import unittest

from leaperwalk.errors import BadFloor, BadLeap, BadNumber, BadText, LeapError, NoCell, TooBig

REFUSALS = [BadFloor, BadLeap, NoCell, BadNumber, TooBig, BadText]


class Errors(unittest.TestCase):
    def test_any_refusal_is_a_value_error(self):
        self.assertTrue(issubclass(LeapError, ValueError))

    def test_each_refusal_is_under_leap_error(self):
        for refusal in REFUSALS:
            with self.subTest(refusal=refusal.__name__):
                self.assertTrue(issubclass(refusal, LeapError))
                self.assertIsNot(refusal, LeapError)

    def test_no_refusal_is_under_another(self):
        for one in REFUSALS:
            for other in REFUSALS:
                if one is not other:
                    with self.subTest(one=one.__name__, other=other.__name__):
                        self.assertFalse(issubclass(one, other))

    def test_each_can_be_raised_with_words(self):
        for refusal in REFUSALS + [LeapError]:
            with self.subTest(refusal=refusal.__name__):
                with self.assertRaises(refusal):
                    raise refusal("words")


if __name__ == "__main__":
    unittest.main()
