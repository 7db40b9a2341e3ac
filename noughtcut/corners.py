"""From corner to corner, in whole numbers and over three places, to where wishes are kept and an aim weighs the most.

A wish is here a tuple of four whole numbers, three weights and a number, and an aim a tuple of three. Of three
wishes whose rows don't lie in one plane the corner is the spot at which each of them holds and is only just kept.
At every corner that is gone through the aim is the sum of the three rows, none of them taken less than nought times:
so where the corner keeps all wishes, no spot that keeps them is weighed more.
"""


def walk(wishes, aim, start):
    """Where the walk from a corner ends, as a tuple (spot, bottom, multiples).

    The start is a list of the places of three wishes whose rows sum up to the aim, none taken less than nought times.
    A spot that keeps all wishes is told by three tops over the bottom; it is None where none keeps them. The multiples
    are a top for each wish, over the bottom too: those of the aim, or those that show that there is no spot.
    """
    held = list(start)
    while True:
        columns, bottom = _columns([wishes[at] for at in held])
        spot = _spot([wishes[at][3] for at in held], columns)
        broken = _first_broken(wishes, spot, bottom)
        if broken is None:
            return (spot, bottom, _placed(len(wishes), held, _shares(aim, columns)))
        shares = _shares(wishes[broken], columns)
        leaving = _leaving(held, shares, _shares(aim, columns))
        if leaving is None:
            multiples = _placed(len(wishes), held, [-share for share in shares])
            multiples[broken] = bottom
            return (None, bottom, multiples)
        held[leaving] = broken


def _columns(rows):
    """Three columns and a bottom above 0: a row of the three weighs its own column the bottom, another one 0."""
    one, two, three = rows
    columns = [_across(two, three), _across(three, one), _across(one, two)]
    bottom = _weigh(one, columns[0])
    if bottom < 0:
        return ([tuple([-part for part in column]) for column in columns], -bottom)
    return (columns, bottom)


def _across(one, other):
    """The row that both rows weigh nought."""
    return (
        one[1] * other[2] - one[2] * other[1],
        one[2] * other[0] - one[0] * other[2],
        one[0] * other[1] - one[1] * other[0],
    )


def _weigh(one, other):
    """The sum of the products at the three places."""
    return one[0] * other[0] + one[1] * other[1] + one[2] * other[2]


def _spot(numbers, columns):
    """The tops of the spot at which three wishes come to just their numbers."""
    return tuple([_weigh(numbers, [column[place] for column in columns]) for place in range(3)])


def _shares(row, columns):
    """How many times each of the three rows is taken, over the bottom, to come to this row."""
    return [_weigh(row, column) for column in columns]


def _first_broken(wishes, spot, bottom):
    """The place of the first wish that the spot doesn't keep, or None."""
    for at, wish in enumerate(wishes):
        if _weigh(wish, spot) > wish[3] * bottom:
            return at
    return None


def _leaving(held, shares, loads):
    """Which of the three wishes makes room for another one that takes such shares of them, or None.

    It is the one whose load is used up first. Of several it is the one that stands first among all wishes: so, and
    since the first wish that is broken comes in, no three wishes are ever held again (Bland's rule).
    """
    best = None
    for at, share in enumerate(shares):
        if share > 0 and (best is None or _is_sooner(at, best, held, shares, loads)):
            best = at
    return best


def _is_sooner(at, best, held, shares, loads):
    """Whether the load at a place is used up ahead of the best one's."""
    one = loads[at] * shares[best]
    other = loads[best] * shares[at]
    return one < other or (one == other and held[at] < held[best])


def _placed(many, held, shares):
    """The shares of the three wishes at their places among so many, and noughts elsewhere."""
    multiples = [0] * many
    for at, share in zip(held, shares):
        multiples[at] = share
    return multiples
