"""Which things are sums over so many things, and rows of multiples: told of any thing."""

from noughtcut.numbers import is_fraction, is_row


def is_sum(thing, many):
    """Whether a thing is a sum, or a wish, over just so many things."""
    if not isinstance(thing, tuple) or len(thing) != 2:
        return False
    row, number = thing
    return is_row(row, many) and is_fraction(number)


def are_multiples(thing, many):
    """Whether a thing is a row of just so many fractions, none below nought."""
    return is_row(thing, many) and all([one[0] >= 0 for one in thing])
