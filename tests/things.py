"""Things of all kinds that may be handed in where a point says "any thing"."""

from fractions import Fraction

from noughtcut.errors import NoLine
from noughtcut.layers import CutLayer


def deep_list(depth):
    """A list in a list in a list, so many times."""
    thing = []
    for _ in range(depth):
        thing = [thing]
    return thing


def deep_tuple(depth):
    """A tuple in a tuple in a tuple, so many times."""
    thing = ()
    for _ in range(depth):
        thing = (thing, 1)
    return thing


def strange_things():
    """New things each time: none of them is a whole number, a fraction, a row with fractions or a number's text."""
    return [
        None,
        True,
        False,
        "",
        "one",
        "(1, 2)",
        " ",
        [],
        [1, 2],
        [(1, 2)],
        [(0, 1), (1, 1)],
        {},
        {1: 2},
        {"top": 1, "bottom": 2},
        (None,),
        (None, None),
        (True, True),
        (0, True),
        (False, 1),
        ("1", "2"),
        ("1", 2),
        (1, "2"),
        ([1], [2]),
        ((1, 2), 3),
        (1, (1, 2)),
        ({}, {}),
        deep_list(20),
        deep_tuple(20),
        (deep_tuple(19), deep_list(19)),
        {"a": deep_list(19)},
        NoLine("undo"),
        CutLayer([]),
        (CutLayer([]), 1),
        tuple([None] * 40),
        [0] * 40,
    ]


def as_fraction(one):
    """Python's own fraction for a fraction of the program."""
    return Fraction(one[0], one[1])


def as_tuple(one):
    """The program's fraction for one of Python's own, or for a whole number."""
    own = Fraction(one)
    return (own.numerator, own.denominator)


def row_of(*numbers):
    """A row of the fractions for these numbers, or texts such as 1/2."""
    return tuple(as_tuple(number) for number in numbers)


def some_numbers():
    """Fractions small and large, on both sides of nought."""
    large = 10 ** 399 + 7
    larger = 10 ** 400 - 1
    texts = ["0", "1", "-1", "2", "-3", "1/2", "-1/2", "2/3", "-7/5", "22/7", "100", "-1/100"]
    numbers = [Fraction(text) for text in texts]
    numbers += [Fraction(large, larger), Fraction(-larger, large), Fraction(large), Fraction(-1, larger)]
    return [as_tuple(number) for number in numbers]
