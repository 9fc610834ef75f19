import unittest

from oncenames import errors
from oncenames.errors import NoBlock, NoForm, NoName, NoStep, NoText, OnceError

REFUSALS = [NoBlock, NoName, NoForm, NoStep, NoText]


class Errors(unittest.TestCase):
    def test_each_stands_straight_under_once_error(self):
        for refusal in REFUSALS:
            self.assertEqual(refusal.__bases__, (OnceError,))
        self.assertEqual(OnceError.__bases__, (ValueError,))

    def test_each_is_there_under_its_name(self):
        for refusal in REFUSALS + [OnceError]:
            self.assertIs(getattr(errors, refusal.__name__), refusal)
        self.assertEqual([each.__name__ for each in REFUSALS], ["NoBlock", "NoName", "NoForm", "NoStep", "NoText"])

    def test_each_is_made_of_one_text(self):
        for refusal in REFUSALS + [OnceError]:
            self.assertEqual(str(refusal("some words")), "some words")
            with self.assertRaises(refusal):
                raise refusal("some words")

    def test_each_is_made_of_nothing(self):
        for refusal in REFUSALS + [OnceError]:
            self.assertEqual(str(refusal()), "")
            with self.assertRaises(OnceError):
                raise refusal()

    def test_none_is_taken_for_another(self):
        for refusal in REFUSALS:
            for other in REFUSALS:
                self.assertEqual(isinstance(refusal(), other), refusal is other)


if __name__ == "__main__":
    unittest.main()
