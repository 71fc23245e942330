"""The refusals' names, and how they stand under one another."""

import unittest

from hastebook.errors import BookError
from tests.helper import REFUSALS


class TestErrors(unittest.TestCase):
    def test_any_refusal_is_a_value_error(self):
        self.assertEqual(BookError.__bases__, (ValueError,))

    def test_each_refusal_is_a_book_error(self):
        for refusal in REFUSALS:
            self.assertEqual(refusal.__bases__, (BookError,))

    def test_none_stands_under_another(self):
        for refusal in REFUSALS:
            for other in REFUSALS:
                self.assertEqual(issubclass(refusal, other), refusal is other)

    def test_names(self):
        names = [refusal.__name__ for refusal in REFUSALS]
        self.assertEqual(names, ["NoOrder", "NoRoom", "NoRow", "NoName", "NoText"])
        self.assertEqual(BookError.__name__, "BookError")

    def test_raised_and_caught(self):
        for refusal in REFUSALS:
            for caught in (refusal, BookError, ValueError):
                with self.assertRaises(caught):
                    raise refusal("words")
