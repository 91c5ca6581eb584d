"""cupweb/errors.py: the refusals of the interface."""

import unittest

from cupweb import errors

WORDS = (
    "BadFace", "Full", "BadSize", "BadRow", "BadRests", "NotShut", "BadMap", "NotFace", "NotNear", "NoFace",
    "NotFree", "BadName", "Taken", "NoWeb", "NoRow", "BadKind", "Unlike", "Had", "NothingLeft", "BadText",
)
NUMBERS = (0, 1, 7, 119, -1, -2, -40, 10 ** 29)


class ErrorsTest(unittest.TestCase):
    def test_there_are_twenty_and_no_other_ones(self):
        made = [name for name, value in vars(errors).items() if isinstance(value, type)]
        self.assertEqual(sorted(made), sorted(WORDS + ("WebError",)))
        self.assertEqual(len(WORDS), 20)

    def test_web_error_is_straight_under_value_error(self):
        self.assertEqual(errors.WebError.__bases__, (ValueError,))

    def test_each_is_straight_under_web_error(self):
        for word in WORDS:
            with self.subTest(word=word):
                self.assertEqual(getattr(errors, word).__bases__, (errors.WebError,))

    def test_none_stands_under_another(self):
        for word in WORDS:
            for other in WORDS:
                with self.subTest(word=word, other=other):
                    under = issubclass(getattr(errors, word), getattr(errors, other))
                    self.assertEqual(under, word == other)

    def test_without_a_number(self):
        for word in WORDS + ("WebError",):
            with self.subTest(word=word):
                error = getattr(errors, word)()
                self.assertEqual((error.at, error.word), (-1, word))

    def test_with_a_number(self):
        for word in WORDS + ("WebError",):
            for number in NUMBERS:
                with self.subTest(word=word, number=number):
                    error = getattr(errors, word)(number)
                    self.assertEqual((error.at, error.word), (number, word))

    def test_each_is_a_web_error_and_a_value_error(self):
        for word in WORDS:
            with self.subTest(word=word):
                error = getattr(errors, word)(3)
                self.assertIsInstance(error, errors.WebError)
                self.assertIsInstance(error, ValueError)

    def test_raised_it_is_caught_by_its_own_name_with_its_fields(self):
        for word in WORDS:
            for caught in (getattr(errors, word), errors.WebError, ValueError):
                with self.subTest(word=word, caught=caught):
                    with self.assertRaises(caught) as held:
                        raise getattr(errors, word)(5)
                    self.assertEqual((held.exception.at, held.exception.word), (5, word))

    def test_two_of_a_class_have_numbers_of_their_own(self):
        one = errors.BadText(4)
        other = errors.BadText()
        self.assertEqual((one.at, other.at), (4, -1))
        self.assertIsInstance(str(one), str)


if __name__ == "__main__":
    unittest.main()
