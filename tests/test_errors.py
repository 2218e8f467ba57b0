"""The interface, allmeet/errors.py."""

import unittest

from allmeet.errors import MeetError, NoNumber, NoRow, NoSet, NoTelling, NoValue

REFUSALS = (NoValue, NoSet, NoTelling, NoNumber, NoRow)


class Errors(unittest.TestCase):
    def test_any_refusal_is_a_value_error(self):
        self.assertTrue(issubclass(MeetError, ValueError))
        self.assertIsNot(MeetError, ValueError)

    def test_each_refusal_stands_under_meet_error(self):
        for refusal in REFUSALS:
            self.assertTrue(issubclass(refusal, MeetError), refusal)
            self.assertIsNot(refusal, MeetError)

    def test_none_stands_under_another_one(self):
        for one in REFUSALS:
            for other in REFUSALS:
                self.assertEqual(issubclass(one, other), one is other, (one, other))

    def test_they_are_raised_and_taken(self):
        for refusal in REFUSALS:
            with self.assertRaises(MeetError):
                raise refusal("why")


if __name__ == "__main__":
    unittest.main()
