"""Trees as texts of rows, one for each of their parts: written, and read again."""

from noughtcut.errors import NoText, NoTree
from noughtcut.numbers import is_row, show_number
from noughtcut.textrows import fraction_in, rows_of

MOST_TWOS = 8
MOST_FRACTIONS = 22
MOST_OUTS = 4
MOST_FIGURES = 400
# The words of the ends that have one row.
ENDS = ("empty", "most", "none", "piece", "against")


def show_tree(tree):
    """The text of a tree."""
    if not _is_tree(tree, 0):
        raise NoTree(tree)
    return "\n".join(_shown(tree))


def read_tree(text):
    """The tree that is written so."""
    rows = rows_of(text)
    tree, after = _read_part(rows, 0, 0)
    if after < len(rows):
        raise NoText(after)
    return tree


def show_row(row):
    """The fractions of a row with one blank between any two."""
    return " ".join([show_number(one) for one in row])


def _is_tree(thing, twos):
    """Whether a thing that stands within so many twos is a tree."""
    if not isinstance(thing, tuple) or len(thing) not in (2, 3):
        return False
    if len(thing) == 3:
        return thing[0] == "two" and twos < MOST_TWOS and all([_is_tree(part, twos + 1) for part in thing[1:]])
    if thing[0] == "same":
        return _are_pairs(thing[1])
    return thing[0] in ENDS and _is_end_row(thing[1])


def _are_pairs(thing):
    """Whether a thing is a tuple with two rows for each out."""
    if not isinstance(thing, tuple) or not 1 <= len(thing) <= MOST_OUTS:
        return False
    for pair in thing:
        if not isinstance(pair, tuple) or len(pair) != 2 or not all([_is_end_row(row) for row in pair]):
            return False
    return True


def _is_end_row(thing):
    """Whether a thing is a row of an end."""
    return isinstance(thing, tuple) and 1 <= len(thing) <= MOST_FRACTIONS and is_row(thing, len(thing))


def _shown(tree):
    """The rows of a tree's text."""
    if tree[0] == "two":
        return ["two"] + _shown(tree[1]) + _shown(tree[2])
    if tree[0] == "same":
        return ["same " + " ; ".join([f"{show_row(one)} | {show_row(other)}" for one, other in tree[1]])]
    return [f"{tree[0]} {show_row(tree[1])}"]


def _read_part(rows, at, twos):
    """The tree that begins with a row, within so many twos, and the place of the row behind it."""
    if at >= len(rows):
        raise NoText(len(rows))
    if rows[at] == "two" and twos < MOST_TWOS:
        cut, after = _read_part(rows, at + 1, twos + 1)
        kept, after = _read_part(rows, after, twos + 1)
        return (("two", cut, kept), after)
    word, _, rest = rows[at].partition(" ")
    if word == "same":
        return (("same", _read_pairs(rest, at)), at + 1)
    if word not in ENDS:
        raise NoText(at)
    return ((word, _read_row(rest, at)), at + 1)


def _read_pairs(text, at):
    """The tuples of two rows that a text tells."""
    pairs = [part.split(" | ") for part in text.split(" ; ")]
    if len(pairs) > MOST_OUTS or not all([len(pair) == 2 for pair in pairs]):
        raise NoText(at)
    return tuple([tuple([_read_row(row, at) for row in pair]) for pair in pairs])


def _read_row(text, at):
    """The row of fractions that a text tells."""
    words = text.split(" ")
    if len(words) > MOST_FRACTIONS:
        raise NoText(at)
    return tuple([fraction_in(word, at, MOST_FIGURES) for word in words])
