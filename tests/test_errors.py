import unittest

from calmcount.errors import CountError, NoPlace, NotCalm, NoText, NothingDone

FOUR = (NotCalm, NoPlace, NothingDone, NoText)


class ErrorsTest(unittest.TestCase):
    def test_count_error_stands_under_value_error(self):
        self.assertEqual(CountError.__bases__, (ValueError,))

    def test_each_of_the_four_stands_under_count_error(self):
        for error in FOUR:
            self.assertTrue(issubclass(error, CountError), error)
            self.assertIsNot(error, CountError)

    def test_none_of_the_four_stands_under_another_one(self):
        for one in FOUR:
            for other in FOUR:
                self.assertEqual(issubclass(one, other), one.__name__ == other.__name__, (one, other))

    def test_count_error_stands_under_none_of_the_four(self):
        for error in FOUR:
            self.assertFalse(issubclass(CountError, error), error)

    def test_each_can_be_raised_and_taken_as_any_refusal(self):
        for error in FOUR + (CountError,):
            with self.assertRaises(CountError):
                raise error("words")
            with self.assertRaises(ValueError):
                raise error("words")

    def test_the_names(self):
        names = [error.__name__ for error in FOUR]
        self.assertEqual(names, ["NotCalm", "NoPlace", "NothingDone", "NoText"])


if __name__ == "__main__":
    unittest.main()
