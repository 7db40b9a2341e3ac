"""Whole numbers, exact fractions and rows of them: told apart, reckoned with, written and read."""

from math import gcd

from noughtcut.errors import NoNumber

NOUGHT = (0, 1)
ONE = (1, 1)


def is_whole(thing):
    """Whether a thing is a whole number."""
    return isinstance(thing, int) and not isinstance(thing, bool)


def is_fraction(thing):
    """Whether a thing is a fraction in lowest terms."""
    if not isinstance(thing, tuple) or len(thing) != 2:
        return False
    top, bottom = thing
    # The gcd of nought and a bottom is the bottom, so of noughts only (0, 1) gets by.
    return is_whole(top) and is_whole(bottom) and bottom > 0 and gcd(top, bottom) == 1


def is_row(thing, many):
    """Whether a thing is a row of just so many fractions."""
    if not isinstance(thing, tuple) or len(thing) != many:
        return False
    return all([is_fraction(part) for part in thing])


def fraction_of(top, bottom):
    """The fraction that is the top divided by the bottom, which is not 0."""
    shared = gcd(top, bottom)
    if bottom < 0:
        shared = -shared
    return (top // shared, bottom // shared)


def plus(one, other):
    """The sum of two fractions."""
    return fraction_of(one[0] * other[1] + other[0] * one[1], one[1] * other[1])


def minus(one, other):
    """The one fraction less the other."""
    return fraction_of(one[0] * other[1] - other[0] * one[1], one[1] * other[1])


def times(one, other):
    """The product of two fractions."""
    return fraction_of(one[0] * other[0], one[1] * other[1])


def ratio(one, other):
    """The one fraction divided by the other, which is not nought."""
    return fraction_of(one[0] * other[1], one[1] * other[0])


def is_less(one, other):
    """Whether the one fraction is less than the other."""
    return one[0] * other[1] < other[0] * one[1]


def cut_at_nought(one):
    """The fraction itself, but nought where it is below nought."""
    if one[0] < 0:
        return NOUGHT
    return one


def weigh(row, other):
    """The sum of the products, place by place, of two rows of one length."""
    total = NOUGHT
    for one, by in zip(row, other):
        total = plus(total, times(one, by))
    return total


def show_number(one):
    """The text of a fraction."""
    top, bottom = one
    if bottom == 1:
        return str(top)
    return f"{top}/{bottom}"


def read_number(text, most=30):
    """The fraction that is written so, with at most so many figures above and below."""
    if not isinstance(text, str):
        raise NoNumber(text)
    above, slash, below = text.removeprefix("-").partition("/")
    if not slash:
        below = "1"
    if not _are_figures(above, most) or not _are_figures(below, most):
        raise NoNumber(text)
    top, bottom = int(above), int(below)
    if text.startswith("-"):
        top = -top
    # Only one text is the text of a fraction: this sorts out -0, 01, 1/1 and their like.
    if not is_fraction((top, bottom)) or show_number((top, bottom)) != text:
        raise NoNumber(text)
    return (top, bottom)


def _are_figures(word, most):
    """Whether a word is made of figures alone, at least one and at most so many."""
    return word.isascii() and word.isdigit() and len(word) <= most
