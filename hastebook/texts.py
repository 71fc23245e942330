"""The words of a book's rows: texts of numbers, and names."""

from hastebook.errors import NoText

FIGURES = "0123456789"
MOST_FIGURES = 30
SMALL_LETTERS = "abcdefghijklmnopqrstuvwxyz"
MOST_LETTERS = 8


def read_count(text):
    if not is_count(text):
        raise NoText("that is no text of a number")
    return int(text)


def is_name(text):
    return is_made_of(SMALL_LETTERS, MOST_LETTERS, text)


def is_count(text):
    if text.startswith("0") and text != "0":
        return False
    return is_made_of(FIGURES, MOST_FIGURES, text)


def is_made_of(signs, most, text):
    return 1 <= len(text) <= most and all([sign in signs for sign in text])
