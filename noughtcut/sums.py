"""Sums over so many things: tuples of a row, with a fraction for each thing, and a number."""

from noughtcut.numbers import NOUGHT, ONE, plus, times, weigh


def sum_at(one, row):
    """What a sum tells at a row with a fraction for each of its things."""
    weights, number = one
    return plus(weigh(weights, row), number)


def sum_plus(one, other):
    """Two sums over as many things, summed place by place and number by number."""
    row = tuple([plus(mine, its) for mine, its in zip(one[0], other[0])])
    return (row, plus(one[1], other[1]))


def sum_times(by, one):
    """A sum taken so many times, by a fraction."""
    weights, number = one
    return (tuple([times(by, weight) for weight in weights]), times(by, number))


def flat_sum(many, number):
    """The sum over so many things that tells this number at every row."""
    return ((NOUGHT,) * many, number)


def place_sum(many, place):
    """The sum over so many things that tells what stands at this place, counted from 0."""
    return (tuple([ONE if at == place else NOUGHT for at in range(many)]), NOUGHT)
