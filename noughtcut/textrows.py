"""Texts of rows, numbered from 0: taken apart, and the fractions in them read."""

from noughtcut.errors import NoNumber, NoText
from noughtcut.numbers import read_number


def rows_of(text):
    """The rows of a text; what is no text is refused."""
    if not isinstance(text, str):
        raise NoText(0)
    return text.split("\n")


def fraction_in(word, at, most=30):
    """The fraction that a word of the row at a place tells, with at most so many figures above and below."""
    try:
        return read_number(word, most)
    except NoNumber:
        raise NoText(at) from None
