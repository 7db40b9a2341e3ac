"""Wishes: whether they hold at a row, and many of them summed, each taken so many times."""

from noughtcut.numbers import NOUGHT, is_less, weigh
from noughtcut.sums import flat_sum, sum_plus, sum_times


def holds(wish, row):
    """Whether a wish holds at a row."""
    return not is_less(wish[1], weigh(wish[0], row))


def holds_strictly(wish, row):
    """Whether a wish holds strictly at a row."""
    return is_less(weigh(wish[0], row), wish[1])


def summed(wishes, multiples, many):
    """The wishes over so many things, each taken its multiple's times: their rows' sum, and their numbers'."""
    total = flat_sum(many, NOUGHT)
    for wish, multiple in zip(wishes, multiples):
        # Most multiples are nought, and sums of long fractions take their time.
        if multiple != NOUGHT:
            total = sum_plus(total, sum_times(multiple, wish))
    return total
