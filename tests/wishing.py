"""Wishes to settle, and a plain look at them by Python's own fractions."""

import itertools
from fractions import Fraction

from tests.things import Draws, as_fraction, as_tuple, row_of


def whole_wish(wish):
    """The weights of a wish, and its number behind them, as Python's own fractions."""
    return [as_fraction(one) for one in wish[0]] + [as_fraction(wish[1])]


def asked_of(box, wishes):
    """All wishes: those of the box, highs ahead of lows, and the others behind them."""
    many = len(box)
    asked = []
    for place, (_, high) in enumerate(box):
        asked.append([Fraction(at == place) for at in range(many)] + [as_fraction(high)])
    for place, (low, _) in enumerate(box):
        asked.append([-Fraction(at == place) for at in range(many)] + [-as_fraction(low)])
    return asked + [whole_wish(wish) for wish in wishes]


def weighs(row, spot):
    """What a row weighs a spot."""
    return sum((by * one for by, one in zip(row, spot)), Fraction(0))


def keeps_all(asked, spot):
    """Whether all wishes hold at a spot."""
    return all(weighs(wish[:-1], spot) <= wish[-1] for wish in asked)


def crossings(asked, many):
    """The spots at which as many wishes as there are places are only just kept, where that is one spot."""
    for some in itertools.combinations(asked, many):
        spot = solved(some)
        if spot is not None:
            yield spot


def solved(rows):
    """The one spot at which each of these comes to just its number, or None."""
    rows = [list(row) for row in rows]
    for place in range(len(rows)):
        lead = next((at for at in range(place, len(rows)) if rows[at][place]), None)
        if lead is None:
            return None
        rows[place], rows[lead] = rows[lead], rows[place]
        rows[place] = [one / rows[place][place] for one in rows[place]]
        for at, row in enumerate(rows):
            if at != place and row[place]:
                rows[at] = [one - row[place] * by for one, by in zip(row, rows[place])]
    return [row[-1] for row in rows]


def most_of(box, wishes, aim):
    """The most that an aim weighs a spot that keeps all wishes, or None: looked for at all crossings."""
    asked = asked_of(box, wishes)
    own = [as_fraction(one) for one in aim]
    found = [weighs(own, spot) for spot in crossings(asked, len(box)) if keeps_all(asked, spot)]
    return max(found, default=None)


def come(asked, multiples):
    """What the rows and the numbers of wishes come to, each taken its multiple's times."""
    total = [Fraction(0)] * len(asked[0])
    for wish, multiple in zip(asked, multiples):
        total = [one + as_fraction(multiple) * more for one, more in zip(total, wish)]
    return total


def turned(wish):
    """The wish that holds where this one doesn't, or is only just kept."""
    row, number = wish
    return (tuple((-top, bottom) for top, bottom in row), (-number[0], number[1]))


def drawn_questions(seed, many):
    """Boxes, wishes and aims: few wishes and many, wishes that stand twice, turned about, through a corner, of noughts."""
    draws = Draws(seed)
    for at in range(many):
        places = 1 + at % 3
        box = draws.box(places)
        wishes = [draws.node(places) for _ in range(draws.below(5))]
        kind = draws.below(8)
        if kind == 1 and wishes:
            wishes += [draws.one_of(wishes), turned(draws.one_of(wishes))]
        if kind == 2:
            wishes += [through(draws, draws.one_of(list(itertools.product(*box)))) for _ in range(4)]
        if kind == 3:
            wishes += [((row_of(0) * places), as_tuple(draws.below(3)))]
        if kind == 4:
            wishes = [through(draws, draws.spot(box)) for _ in range(3)]
        if kind == 5:
            spot = draws.spot(box)
            wishes = [through(draws, spot) for _ in range(5)]
        aim = draws.row(places) if draws.below(6) else row_of(0) * places
        yield box, wishes, aim


def through(draws, spot):
    """A wish that is only just kept at a spot."""
    row = draws.row(len(spot))
    return (row, as_tuple(weighs([as_fraction(one) for one in row], [as_fraction(one) for one in spot])))


def wrong_wishes(places):
    """Things that are no wishes over so many places."""
    right = row_of(*range(places))
    return [
        (right + row_of(1), (0, 1)), (right[1:], (0, 1)), (list(right), (0, 1)), [right, (0, 1)], (right, 0), (right,), right,
        (right, (0, 2)), (right, (True, 1)), (right, [0, 1]), (right, (0, 1), 0), (right, None), None, True, 0, "", "wish", {},
        [], (), ((None,) * places, (0, 1)), ((1,) * places, (0, 1)), (right, "0"), {0: right, 1: (0, 1)},
    ]


def not_lists():
    """Things that are no list and no tuple."""
    return [None, True, False, 0, 5, "", "wishes", {}, {0: (row_of(1), (0, 1))}]
