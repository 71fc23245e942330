"""Point 16: texts of numbers, and names."""

import itertools
import re

from hastebook.errors import NoText
from hastebook.texts import is_name, read_count
from tests.helper import THIRTY, BookCase

# Every sign that a text may have.
SIGNS = [chr(code) for code in range(ord(" "), ord("~") + 1) if code != 37]
FIGURES = "0123456789"
LETTERS = "abcdefghijklmnopqrstuvwxyz"


class TestCount(BookCase):
    def test_one_figure(self):
        for number, figure in enumerate(FIGURES):
            self.tells(number, read_count, figure)

    def test_more_figures(self):
        for number in [*range(10, 1200), 10 ** 6, 987654321, THIRTY // 10, THIRTY // 10 + 1, THIRTY - 1]:
            self.tells(number, read_count, str(number))

    def test_thirty_figures_and_thirty_one(self):
        self.tells(THIRTY, read_count, "9" * 30)
        self.tells(10 ** 29, read_count, "1" + "0" * 29)
        self.tells(123456789012345678901234567890, read_count, "123456789012345678901234567890")
        for figures in ("9" * 31, "1" + "0" * 30, "1" * 32, "1" * 4000, "123456789012345678901234567890" * 2):
            self.refuses(NoText, read_count, figures)

    def test_nought_ahead(self):
        for figures in ("00", "01", "09", "007", "000", "0" * 30, "0" * 31, "0" + "9" * 29, "0" + "9" * 30):
            self.refuses(NoText, read_count, figures)

    def test_noughts_not_ahead(self):
        for number in (10, 20, 90, 100, 101, 1000, 5000000000):
            self.tells(number, read_count, str(number))

    def test_text_without_signs(self):
        self.refuses(NoText, read_count, "")

    def test_other_signs_alone_ahead_behind_and_within(self):
        for sign in SIGNS:
            if sign in FIGURES:
                continue
            for text in (sign, sign * 2, sign + "1", "1" + sign, "1" + sign + "2", sign + "0", "0" + sign):
                self.refuses(NoText, read_count, text)
            for place in range(30):
                self.refuses(NoText, read_count, "1" * place + sign + "1" * (29 - place))

    def test_forms_of_numbers_that_are_none_here(self):
        forms = ("-0", "+0", "-1", "+1", " 1", "1 ", " ", "  ", "1_0", "1.0", "1.", ".5", "1,000", "1e3", "0x1f",
                 "0b1", "1 2", "one", "a", "9a", "(1)", "--1", "1-", "None", "0.0", "1__0", "_1", "1_")
        for text in forms:
            self.refuses(NoText, read_count, text)

    def test_all_short_texts_of_some_signs(self):
        for many in range(4):
            for signs in itertools.product("0129-+ _.a", repeat=many):
                text = "".join(signs)
                if re.fullmatch("0|[1-9][0-9]*", text):
                    self.tells(int(text), read_count, text)
                else:
                    self.refuses(NoText, read_count, text)


class TestName(BookCase):
    def test_one_letter(self):
        for letter in LETTERS:
            self.tells(True, is_name, letter)

    def test_up_to_eight_letters_and_more(self):
        for many in range(1, 9):
            self.tells(True, is_name, "k" * many)
            self.tells(True, is_name, LETTERS[:many])
            self.tells(True, is_name, LETTERS[-many:])
        for many in (9, 10, 26, 400, 4000):
            self.tells(False, is_name, "k" * many)
        self.tells(False, is_name, LETTERS[:9])

    def test_no_letter(self):
        self.tells(False, is_name, "")

    def test_other_signs(self):
        for sign in SIGNS:
            if sign in LETTERS:
                continue
            for text in (sign, sign * 8, sign + "a", "a" + sign, "a" + sign + "b", "abcdefg" + sign, sign + "abcdefg"):
                self.tells(False, is_name, text)
            for place in range(8):
                self.tells(False, is_name, "a" * place + sign + "a" * (7 - place))

    def test_words_that_are_no_names(self):
        for text in ("A", "aB", "Ab", "ABC", "a1", "1a", "7", "a b", " a", "a ", " ", "a-b", "-a", "a-", "-", "a_b"):
            self.tells(False, is_name, text)

    def test_the_words_of_rows_are_names(self):
        words = "work need free drop names show ends price plan why curve spare budget bonus ok none way"
        for word in words.split(" "):
            self.tells(True, is_name, word)

    def test_all_short_texts_of_some_signs(self):
        for many in range(4):
            for signs in itertools.product("azAZ0 -`{", repeat=many):
                text = "".join(signs)
                self.tells(re.fullmatch("[a-z]+", text) is not None, is_name, text)
