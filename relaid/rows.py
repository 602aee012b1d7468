"""Rows of the desk: words parted by one blank, and the numbers among them."""

from relaid.texts import is_number

MOST_FIGURES = 61


def number_told(word):
    return int(word) if is_number(word, MOST_FIGURES) else None


def goings_told(word):
    if not word.startswith("-"):
        return number_told(word)
    number = number_told(word[1:])
    return None if number is None or number == 0 else -number
