"""Wishes: whether they hold at a row, and many of them summed, each taken so many times."""

from noughtcut.kinds import are_multiples
from noughtcut.numbers import NOUGHT, is_less, plus, weigh
from noughtcut.sums import flat_sum, sum_plus, sum_times


def holds(wish, row):
    """Whether a wish holds at a row."""
    return not is_less(wish[1], weigh(wish[0], row))


def holds_strictly(wish, row):
    """Whether a wish holds strictly at a row."""
    return is_less(weigh(wish[0], row), wish[1])


def summed(wishes, multiples, many):
    """The wishes over so many things, each taken its multiple's times: their rows' sum, and their numbers'."""
    total = flat_sum(many, NOUGHT)
    for wish, multiple in zip(wishes, multiples):
        # Most multiples are nought, and sums of long fractions take their time.
        if multiple != NOUGHT:
            total = sum_plus(total, sum_times(multiple, wish))
    return total


def are_against(thing, wishes, strict):
    """Whether a thing is multiples that show that no spot keeps all wishes, those at the strict places strictly."""
    if not are_multiples(thing, len(wishes)):
        return False
    many = len(wishes[0][0])
    row, number = summed(wishes, thing, many)
    if row != (NOUGHT,) * many:
        return False
    return number[0] < 0 or (number == NOUGHT and any([thing[at] != NOUGHT for at in strict]))


def are_bound(thing, wishes, one, most):
    """Whether a thing is multiples that show that a sum tells no more than this wherever all wishes hold."""
    if not are_multiples(thing, len(wishes)):
        return False
    row, number = summed(wishes, thing, len(one[0]))
    return row == one[0] and not is_less(most, plus(number, one[1]))
