"""Lines told at a desk: read, word by word."""

from noughtcut.errors import NoLine, NoNumber
from noughtcut.numbers import read_number

LETTERS = "abcdefghijklmnopqrstuvwxyz"
MOST_LETTERS = 8
MOST_WHOLE = 99
MOST_NUMBERS = 4
# What stands behind the first word of each line. A "new" name is one by which nothing has to be kept, "net" and "box"
# are names by which a net or a box has to be; "numbers" are a row, and "rows" a text with line feeds.
FORMS = {
    "net": ("new", "rows"),
    "box": ("new", "rows"),
    "show": ("net",),
    "sides": ("box",),
    "out": ("net", "numbers"),
    "pattern": ("net", "numbers"),
    "weight": ("net", "whole", "whole", "whole", "number"),
    "number": ("net", "whole", "whole", "number"),
    "bounds": ("net", "box"),
    "states": ("net", "box"),
    "most": ("net", "box", "numbers"),
    "least": ("net", "box", "numbers"),
    "paper": ("net", "box", "numbers"),
    "alike": ("net", "net", "box"),
    "needless": ("net", "box"),
    "slim": ("net", "box"),
    "pieces": ("net", "box"),
    "always": ("net", "box", "whole", "number"),
    "above": ("net", "box", "whole"),
    "behind": ("new", "net", "net"),
    "beside": ("new", "net", "net"),
    "opposite": ("new", "net"),
    "undo": (),
}


def read_line(line):
    """The first word of a line and what stands behind it, in order."""
    if not isinstance(line, str) or "\n" in line:
        raise NoLine(line)
    words = line.split(" ")
    word, texts = words[0], words[1:]
    if word not in FORMS:
        raise NoLine(line)
    kinds = kinds_of(word)
    many = len(kinds)
    if len(texts) > many > 0:
        # Only the last thing may have blanks in it.
        texts = texts[:many - 1] + [" ".join(texts[many - 1:])]
    told = [_read(kind, text) for kind, text in zip(kinds, texts)]
    if len(texts) != many or None in told:
        raise NoLine(line)
    return (word,) + tuple(told)


def kinds_of(word):
    """The kinds of the things that stand behind the first word of a line."""
    return FORMS[word]


def _read(kind, text):
    """What a text tells as a thing of a kind, or None."""
    if kind == "whole":
        return _read_whole(text)
    if kind == "number":
        return _read_number(text)
    if kind == "numbers":
        return _read_numbers(text)
    if kind == "rows":
        # From the left on, and no blank is of two line feeds.
        return text.replace(" / ", "\n")
    return _read_name(text)


def _read_name(text):
    """The name that a text is, or None."""
    if 1 <= len(text) <= MOST_LETTERS and all([sign in LETTERS for sign in text]):
        return text
    return None


def _read_whole(text):
    """The whole number of one or two figures that a text tells, or None."""
    if text in [str(number) for number in range(MOST_WHOLE + 1)]:
        return int(text)
    return None


def _read_number(text):
    """The fraction that a text tells, or None."""
    try:
        return read_number(text)
    except NoNumber:
        return None


def _read_numbers(text):
    """The row of one to four fractions that a text tells, or None."""
    row = tuple([_read_number(word) for word in text.split(" ")])
    if len(row) > MOST_NUMBERS or None in row:
        return None
    return row
