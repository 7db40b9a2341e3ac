"""Wishes settled: a spot in a box that keeps them all, or multiples that show that there is none.

The multiples stand in the order of all wishes: those of the box, those that are handed in, and the strict ones.
"""

from math import lcm

from noughtcut.boxes import HALF, MINUS_ONE, box_wishes, check_box, is_in
from noughtcut.corners import walk
from noughtcut.errors import NoAim, NoWish
from noughtcut.kinds import are_multiples, is_sum
from noughtcut.numbers import NOUGHT, fraction_of, is_row, plus, times, weigh
from noughtcut.sums import sum_times
from noughtcut.wishes import are_against, holds, holds_strictly, summed

MOST_WISHES = 16
# Corners are reckoned over three places, whatever a box has: what lies beyond its own is 0 at every spot.
PLACES = 3
DUMMIES = ((0, 1, 0, 0), (0, 0, 1, 0))


class Settled:
    """An answer; a plain one tells nothing."""

    def has_spot(self):
        """Whether it has a spot."""
        return False

    def shows(self, box, wishes, aim):
        """Whether it shows what it tells for these: a plain one never does."""
        return False


class Most(Settled):
    """A spot that keeps all wishes and that the aim weighs the most, and the multiples that show so."""

    def __init__(self, spot, multiples):
        self.spot = spot
        self.multiples = multiples

    def has_spot(self):
        """Whether it has a spot: it does."""
        return True

    def shows(self, box, wishes, aim):
        """Whether it is so for this box, these wishes and this aim."""
        _check_aim(box, wishes, aim)
        asked = box_wishes(box) + list(wishes)
        if not is_in(box, self.spot) or not are_multiples(self.multiples, len(asked)):
            return False
        if not all([holds(wish, self.spot) for wish in asked]):
            return False
        return summed(asked, self.multiples, len(box)) == (aim, weigh(aim, self.spot))


class Empty(Settled):
    """Multiples that show that no spot keeps all wishes."""

    def __init__(self, multiples):
        self.multiples = multiples

    def has_spot(self):
        """Whether it has a spot: it does not."""
        return False

    def shows(self, box, wishes, aim):
        """Whether it is so for this box and these wishes."""
        _check_aim(box, wishes, aim)
        return are_against(self.multiples, box_wishes(box) + list(wishes), [])


class Inside(Settled):
    """A spot that keeps all wishes, and all strict ones strictly."""

    def __init__(self, spot):
        self.spot = spot

    def has_spot(self):
        """Whether it has a spot: it does."""
        return True

    def shows(self, box, wishes, strict):
        """Whether it is so for this box, these wishes and these strict ones."""
        _check_strict(box, wishes, strict)
        if not is_in(box, self.spot) or not all([holds(wish, self.spot) for wish in wishes]):
            return False
        return all([holds_strictly(wish, self.spot) for wish in strict])


class Outside(Settled):
    """Multiples that show that no spot keeps all wishes, and all strict ones strictly."""

    def __init__(self, multiples):
        self.multiples = multiples

    def has_spot(self):
        """Whether it has a spot: it does not."""
        return False

    def shows(self, box, wishes, strict):
        """Whether it is so for this box, these wishes and these strict ones."""
        _check_strict(box, wishes, strict)
        asked = box_wishes(box) + list(wishes) + list(strict)
        return are_against(self.multiples, asked, _last_places(asked, strict))


def settle(box, wishes, aim):
    """A Most or an Empty for a box, wishes over its places, and an aim."""
    _check_aim(box, wishes, aim)
    return _settled(box_wishes(box) + list(wishes), aim)


def settle_strictly(box, wishes, strict):
    """An Inside or an Outside for a box, wishes over its places, and strict ones."""
    _check_strict(box, wishes, strict)
    asked = box_wishes(box) + list(wishes) + list(strict)
    return settled_strictly(asked, _last_places(asked, strict), len(box))


def settled_strictly(asked, strict, many):
    """An Inside or an Outside for all wishes, those of a box of so many places first, some at places strictly."""
    answer = _settled(asked, (NOUGHT,) * many)
    if not answer.has_spot():
        return Outside(answer.multiples)
    spot = answer.spot
    for at in strict:
        if not holds_strictly(asked[at], spot):
            # As far from this wish's bound as can be: if that is on the bound, then so is every spot.
            answer = _settled(asked, sum_times(MINUS_ONE, asked[at])[0])
            if not holds_strictly(asked[at], answer.spot):
                return Outside(_with_one_more(answer.multiples, at))
            # Halfway both spots' strict wishes hold strictly, for all wishes hold at both.
            spot = tuple([times(HALF, plus(one, other)) for one, other in zip(spot, answer.spot)])
    return Inside(spot)


def _last_places(asked, strict):
    """The places of the strict wishes, which stand behind all others."""
    return list(range(len(asked) - len(strict), len(asked)))


def _settled(asked, aim):
    """A Most or an Empty for all wishes, those of a box of as many places as the aim first."""
    many = len(aim)
    sizes = [_size(wish[0] + (wish[1],)) for wish in asked]
    wishes = [_whole(wish[0], many, by) + (_top(wish[1], by),) for wish, by in zip(asked, sizes)]
    size = _size(aim)
    spot, bottom, tops = walk(wishes + list(DUMMIES[many - 1:]), _whole(aim, many, size), _start(aim, len(asked)))
    if spot is None:
        return Empty(tuple([fraction_of(top * by, bottom) for top, by in zip(tops, sizes)]))
    multiples = tuple([fraction_of(top * by, bottom * size) for top, by in zip(tops, sizes)])
    return Most(tuple([fraction_of(top, bottom) for top in spot[:many]]), multiples)


def _start(aim, many):
    """The places of the box's wishes that are only just kept where the aim weighs the most in the box alone."""
    tight = [place if weight[0] > 0 else len(aim) + place for place, weight in enumerate(aim)]
    return tight + list(range(many, many + PLACES - len(aim)))


def _size(fractions):
    """The least whole number above 0 that makes all of these whole numbers."""
    size = 1
    for one in fractions:
        size = lcm(size, one[1])
    return size


def _top(one, size):
    """The whole number that a fraction is, taken so many times."""
    return one[0] * (size // one[1])


def _whole(row, many, size):
    """A row, taken so many times, as whole numbers, and 0 at the places that it doesn't have."""
    return tuple([_top(one, size) for one in row] + [0] * (PLACES - many))


def _with_one_more(multiples, at):
    """The multiples with 1 put to the one at a place."""
    return multiples[:at] + (plus(multiples[at], (1, 1)),) + multiples[at + 1:]


def _check_box_and_wishes(box, wishes):
    """Refuse what is no box, then what are no wishes over its places."""
    check_box(box)
    if not isinstance(wishes, (list, tuple)) or len(wishes) > MOST_WISHES:
        raise NoWish(wishes)
    _check_each(wishes, len(box))


def _check_each(wishes, many):
    """Refuse the first thing that is no wish over so many things."""
    for wish in wishes:
        if not is_sum(wish, many):
            raise NoWish(wish)


def _check_aim(box, wishes, aim):
    """Refuse what is no box, then no wishes, then no aim."""
    _check_box_and_wishes(box, wishes)
    if not is_row(aim, len(box)):
        raise NoAim(aim)


def _check_strict(box, wishes, strict):
    """Refuse what is no box, then what are no wishes and strict ones."""
    check_box(box)
    for handed in (wishes, strict):
        if not isinstance(handed, (list, tuple)):
            raise NoWish(handed)
    if len(wishes) + len(strict) > MOST_WISHES:
        raise NoWish(wishes)
    _check_each(wishes, len(box))
    _check_each(strict, len(box))
