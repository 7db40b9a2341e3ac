"""Boxes: the spots that lie in them, their wishes, and what a sum comes to in them at least and at most."""

from noughtcut.errors import NoAim, NoBox
from noughtcut.kinds import is_sum
from noughtcut.numbers import is_less, is_row, plus, times
from noughtcut.sums import place_sum, sum_at, sum_times

HALF = (1, 2)
MINUS_ONE = (-1, 1)
MOST_PLACES = 3


def is_box(thing):
    """Whether a thing is a box."""
    if not isinstance(thing, tuple) or not 1 <= len(thing) <= MOST_PLACES:
        return False
    return all([_is_span(part) for part in thing])


def is_in(box, thing):
    """Whether a thing is a spot that lies in the box."""
    check_box(box)
    if not is_row(thing, len(box)):
        return False
    for (low, high), one in zip(box, thing):
        if is_less(one, low) or is_less(high, one):
            return False
    return True


def middle(box):
    """The spot that is halfway from low to high at each place."""
    check_box(box)
    return tuple([times(HALF, plus(low, high)) for low, high in box])


def box_wishes(box):
    """The wishes that hold at just the spots in the box: of all highs, then of all lows."""
    check_box(box)
    rows = [place_sum(len(box), place)[0] for place in range(len(box))]
    at_most = [(row, span[1]) for row, span in zip(rows, box)]
    at_least = [sum_times(MINUS_ONE, (row, span[0])) for row, span in zip(rows, box)]
    return at_most + at_least


def least_of(box, one):
    """The least that a sum tells in the box, and the spot at low or high at each place where it does."""
    _check_sum(box, one)
    spot = spot_at(box, low_corner(one))
    return (sum_at(one, spot), spot)


def greatest_of(box, one):
    """The greatest that a sum tells in the box, and the spot at low or high at each place where it does."""
    _check_sum(box, one)
    spot = spot_at(box, high_corner(one))
    return (sum_at(one, spot), spot)


def low_corner(one):
    """The corner at which a sum tells the least: place by place 0 for the low there and 1 for the high."""
    return tuple([1 if weight[0] < 0 else 0 for weight in one[0]])


def high_corner(one):
    """The corner at which a sum tells the greatest: place by place 0 for the low there and 1 for the high."""
    return tuple([1 if weight[0] > 0 else 0 for weight in one[0]])


def spot_at(spans, corner):
    """The row that stands at each place at the low or the high that a corner tells."""
    return tuple([span[end] for span, end in zip(spans, corner)])


def corners(box):
    """The spots that stand at each place at low or at high."""
    many = len(box)
    return [spot_at(box, [at >> place & 1 for place in range(many)]) for at in range(1 << many)]


def check_box(thing):
    """Refuse what is no box."""
    if not is_box(thing):
        raise NoBox(thing)


def check_box_over(thing, many):
    """Refuse what is no box of just so many tuples."""
    if not is_box(thing) or len(thing) != many:
        raise NoBox(thing)


def _check_sum(box, one):
    """Refuse what is no box, then what is no sum over its places."""
    check_box(box)
    if not is_sum(one, len(box)):
        raise NoAim(one)


def _is_span(thing):
    """Whether a thing is a tuple of a low and a high, low not above high."""
    return is_row(thing, 2) and not is_less(thing[1], thing[0])
