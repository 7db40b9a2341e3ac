"""Things of all kinds that may be handed in where a point says "any thing"."""

from fractions import Fraction
from math import gcd

from noughtcut.errors import NoLine
from noughtcut.layers import CutLayer
from noughtcut.nets import Net


def deep_list(depth):
    """A list in a list in a list, so many times."""
    thing = []
    for _ in range(depth):
        thing = [thing]
    return thing


def deep_tuple(depth):
    """A tuple in a tuple in a tuple, so many times."""
    thing = ()
    for _ in range(depth):
        thing = (thing, 1)
    return thing


def strange_things():
    """New things each time: none of them is a whole number, a fraction, a row with fractions or a number's text."""
    return [
        None,
        True,
        False,
        "",
        "one",
        "(1, 2)",
        " ",
        [],
        [1, 2],
        [(1, 2)],
        [(0, 1), (1, 1)],
        {},
        {1: 2},
        {"top": 1, "bottom": 2},
        (None,),
        (None, None),
        (True, True),
        (0, True),
        (False, 1),
        ("1", "2"),
        ("1", 2),
        (1, "2"),
        ([1], [2]),
        ((1, 2), 3),
        (1, (1, 2)),
        ({}, {}),
        deep_list(20),
        deep_tuple(20),
        (deep_tuple(19), deep_list(19)),
        {"a": deep_list(19)},
        NoLine("undo"),
        CutLayer([]),
        (CutLayer([]), 1),
        tuple([None] * 40),
        [0] * 40,
    ]


def as_fraction(one):
    """Python's own fraction for a fraction of the program."""
    return Fraction(one[0], one[1])


def as_tuple(one):
    """The program's fraction for one of Python's own, or for a whole number."""
    own = Fraction(one)
    return (own.numerator, own.denominator)


def row_of(*numbers):
    """A row of the fractions for these numbers, or texts such as 1/2."""
    return tuple(as_tuple(number) for number in numbers)


def some_numbers():
    """Fractions small and large, on both sides of nought."""
    large = 10 ** 399 + 7
    larger = 10 ** 400 - 1
    texts = ["0", "1", "-1", "2", "-3", "1/2", "-1/2", "2/3", "-7/5", "22/7", "100", "-1/100"]
    numbers = [Fraction(text) for text in texts]
    numbers += [Fraction(large, larger), Fraction(-larger, large), Fraction(large), Fraction(-1, larger)]
    return [as_tuple(number) for number in numbers]


class Draws:
    """Numbers, rows, nodes, nets and boxes drawn one after the other, the same ones for the same seed."""

    def __init__(self, seed):
        self.state = seed

    def below(self, many):
        """A whole number from 0 to below many."""
        self.state = (self.state * 6364136223846793005 + 1442695040888963407) % 2 ** 64
        return (self.state >> 33) % many

    def one_of(self, things):
        """One of these things."""
        return things[self.below(len(things))]

    def number(self):
        """A small fraction, often a whole one, sometimes nought."""
        return as_tuple(Fraction(self.below(9) - 4, self.one_of((1, 1, 1, 2, 3))))

    def long_number(self, figures):
        """A fraction with so many figures above and below, on either side of nought."""
        while True:
            top, bottom = (sum(self.below(10) * 10 ** at for at in range(figures)) for _ in range(2))
            if gcd(top, bottom) == 1 and min(top, bottom) >= 10 ** (figures - 1):
                return (top * self.one_of((1, -1)), bottom)

    def row(self, many):
        """A row of small fractions."""
        return tuple(self.number() for _ in range(many))

    def node(self, many):
        """A sum over so many things."""
        return (self.row(many), self.number())

    def layers(self, ins, sizes):
        """Layers of so many nodes each, as lists."""
        return [[self.node(ahead) for _ in range(many)] for ahead, many in zip([ins, *sizes], sizes)]

    def net(self, ins, sizes):
        """A net with layers of so many nodes each."""
        return Net(ins, self.layers(ins, sizes))

    def some_net(self):
        """A net of one to three ins, one to four layers, one to four nodes each."""
        return self.net(1 + self.below(3), [1 + self.below(4) for _ in range(1 + self.below(4))])

    def box(self, places):
        """A box of so many places, sometimes flat at one."""
        return tuple(tuple(sorted((self.number(), self.number()), key=as_fraction)) for _ in range(places))

    def spot(self, box):
        """A spot in a box: at each place low, high or something between."""
        spot = []
        for low, high in box:
            share = Fraction(self.one_of((0, 1, 2, 3, 4, 5, 6, 6, 0)), 6)
            spot.append(as_tuple(as_fraction(low) + share * (as_fraction(high) - as_fraction(low))))
        return tuple(spot)


def refused(test, kind, function, *arguments):
    """The very thing that is kept by the refusal, of just this kind, that a call ends with."""
    with test.assertRaises(kind) as caught:
        function(*arguments)
    test.assertIs(caught.exception.__class__, kind)
    fields = vars(caught.exception)
    test.assertEqual(len(fields), 1)
    return list(fields.values())[0]


def come_to(net, spot):
    """What all nodes of a net come to at a spot, reckoned by Python's own fractions."""
    found = []
    ahead = [as_fraction(one) for one in spot]
    for nodes in net.told()[1]:
        sums = [sum((as_fraction(w) * by for w, by in zip(row, ahead)), as_fraction(number)) for row, number in nodes]
        found.append(sums)
        ahead = [max(one, Fraction(0)) for one in sums]
    return found


def pattern_of(net, spot):
    """The pattern of a spot, reckoned by Python's own fractions."""
    hidden = [one for sums in come_to(net, spot)[:-1] for one in sums]
    return sum(2 ** at for at, one in enumerate(hidden) if one > 0)
