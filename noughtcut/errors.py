"""The refusals: each one keeps the very thing that was refused.

No text of an error shows that thing, since it may be of any kind and size.
"""


class CutError(ValueError):
    """Any refusal; each kind of refusal stands straight under it."""

    def __init__(self, text):
        ValueError.__init__(self, text)


class NoNumber(CutError):
    """What was handed in as a number, or as its text, is none."""

    def __init__(self, found):
        CutError.__init__(self, "no such number")
        self.found = found


class NoNet(CutError):
    """What was handed in makes no net."""

    def __init__(self, found):
        CutError.__init__(self, "no net")
        self.found = found


class NoNode(CutError):
    """There is no such node."""

    def __init__(self, found):
        CutError.__init__(self, "no such node")
        self.found = found


class NoWire(CutError):
    """There is no such thing ahead of a node."""

    def __init__(self, found):
        CutError.__init__(self, "no such wire")
        self.found = found


class NoSpot(CutError):
    """What was handed in as a spot is none."""

    def __init__(self, found):
        CutError.__init__(self, "no spot")
        self.found = found


class NoBox(CutError):
    """What was handed in as a box is none, or does not fit."""

    def __init__(self, found):
        CutError.__init__(self, "no box")
        self.found = found


class NoWish(CutError):
    """What was handed in as a wish, or as wishes, is none."""

    def __init__(self, found):
        CutError.__init__(self, "no wish")
        self.found = found


class NoAim(CutError):
    """What was handed in as an aim is none."""

    def __init__(self, found):
        CutError.__init__(self, "no aim")
        self.found = found


class NoOut(CutError):
    """There is no such out."""

    def __init__(self, found):
        CutError.__init__(self, "no such out")
        self.found = found


class NoPattern(CutError):
    """What was handed in as a pattern is none."""

    def __init__(self, found):
        CutError.__init__(self, "no pattern")
        self.found = found


class NoFit(CutError):
    """Nets do not fit together."""

    def __init__(self, found):
        CutError.__init__(self, "no fit")
        self.found = found


class NoTree(CutError):
    """What was handed in as a tree is none."""

    def __init__(self, found):
        CutError.__init__(self, "no tree")
        self.found = found


class NoName(CutError):
    """Nothing is kept by this name."""

    def __init__(self, found):
        CutError.__init__(self, "no such name")
        self.found = found


class NoText(CutError):
    """A text does not have the form told; the row says where."""

    def __init__(self, row):
        CutError.__init__(self, "no such text")
        self.row = row


class Large(CutError):
    """There are too many hidden nodes to go through by cases."""

    def __init__(self, many):
        CutError.__init__(self, "too many hidden nodes")
        self.many = many


class NoLine(CutError):
    """What was handed in as a line is none."""

    def __init__(self, line):
        CutError.__init__(self, "no such line")
        self.line = line
