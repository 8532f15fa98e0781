"""[6]: the classes of refusals."""

import unittest

from sharetrail import errors

WITH_TEXT = (
    "NoNumber", "NoLoad", "NoPartner", "NoPrices", "NoThrow", "NoSale", "NoOrder", "NoTrain", "NoFirst", "NoDeed",
    "NoNext", "NothingDone", "TooMany", "NoText", "NoRow",
)
EACH = WITH_TEXT + ("NotDone",)


def made(name):
    """An error of the class, made as the document says."""
    return getattr(errors, name)("some words" if name in WITH_TEXT else 3)


class Errors(unittest.TestCase):
    def test_trail_error_stands_straight_under_value_error(self):
        self.assertEqual(errors.TrailError.__bases__, (ValueError,))

    def test_each_stands_straight_under_trail_error(self):
        for name in EACH:
            with self.subTest(name):
                self.assertEqual(getattr(errors, name).__bases__, (errors.TrailError,))

    def test_each_is_of_none_of_the_other_classes(self):
        for name in EACH:
            error = made(name)
            self.assertIsInstance(error, errors.TrailError)
            self.assertIsInstance(error, ValueError)
            kinds = [other for other in EACH if isinstance(error, getattr(errors, other))]
            self.assertEqual(kinds, [name])

    def test_each_is_raised_and_taken(self):
        for name in EACH:
            with self.subTest(name):
                with self.assertRaises(getattr(errors, name)):
                    raise made(name)

    def test_each_keeps_its_text(self):
        for name in WITH_TEXT + ("TrailError",):
            with self.subTest(name):
                self.assertEqual(str(getattr(errors, name)("some words")), "some words")

    def test_not_done_keeps_the_place(self):
        for at in (0, 1, 19):
            self.assertEqual(errors.NotDone(at).at, at)


if __name__ == "__main__":
    unittest.main()
