"""What a desk tells of lines that ask: of each one a text, of the nets and the boxes that it names."""

from noughtcut.alike import told_alike
from noughtcut.boxes import check_box_over
from noughtcut.errors import NoOut
from noughtcut.handing import states_of
from noughtcut.needless import needless_wires
from noughtcut.nettext import show_box, show_net
from noughtcut.numbers import show_number
from noughtcut.pieces import pieces_of
from noughtcut.sums import place_sum
from noughtcut.tighter import tightened
from noughtcut.treetext import show_row, show_tree
from noughtcut.trees import greatest_at, least_at
from noughtcut.wanted import above_all, always_holds


def show_wires(wires):
    """The text of a list of wires."""
    return " ; ".join([f"{layer} {node} {place}" for layer, node, place in wires]) or "-"


def asks_something(word):
    """Whether a line with this first word asks."""
    return word in ASKS


def answer_of(word, things):
    """The text that is told of a line that asks, by its first word and by the things that it names."""
    ask = ASKS[word]
    return ask(*things)


def _show(net):
    """The text of a net as one line."""
    return _one_line(show_net(net))


def _sides(box):
    """The text of a box as one line."""
    return _one_line(show_box(box))


def _out(net, spot):
    """The outs at a spot."""
    return show_row(net.outs_at(spot))


def _pattern(net, spot):
    """The pattern at a spot."""
    return str(net.pattern_at(spot))


def _bounds(net, box):
    """The tighter low and high of each node."""
    fours = [four for layer in tightened(net, box) for four in layer]
    return " ; ".join([f"{show_number(low)} {show_number(high)}" for under, over, low, high in fours])


def _states(net, box):
    """The states of the hidden nodes."""
    return " ".join(states_of(net, box)) or "-"


def _most(net, box, aim):
    """The greatest of an aim, and where it is reached."""
    number, spot, tree = greatest_at([net], box, aim)
    return f"{show_number(number)} at {show_row(spot)}"


def _least(net, box, aim):
    """The least of an aim, and where it is reached."""
    number, spot, tree = least_at([net], box, aim)
    return f"{show_number(number)} at {show_row(spot)}"


def _paper(net, box, aim):
    """The tree that shows that an aim's greatest is the greatest, as one line."""
    return _one_line(show_tree(greatest_at([net], box, aim)[2]))


def _alike(one, other, box):
    """Whether two nets are alike."""
    told = told_alike(one, other, box)
    if told[0] == "alike":
        return "alike"
    word, out, spot = told
    return f"{word} {out} at {show_row(spot)}"


def _needless(net, box):
    """The needless wires."""
    return show_wires(needless_wires(net, box))


def _pieces(net, box):
    """The patterns that spots in the box have."""
    return " ".join([str(pattern) for pattern, spot, sums in pieces_of(net, box)])


def _always(net, box, out, number):
    """Whether an out is at most a number everywhere."""
    check_box_over(box, net.ins())
    if out >= net.outs():
        raise NoOut(out)
    word, shown = always_holds(net, box, (place_sum(net.outs(), out)[0], number))
    if word == "true":
        return "true"
    return f"{word} at {show_row(shown)}"


def _above(net, box, out):
    """Whether an out is above all others everywhere."""
    told = above_all(net, box, out)
    if told[0] == "true":
        return "true"
    word, other, spot = told
    return f"{word} {other} at {show_row(spot)}"


def _one_line(text):
    """A text of rows as one line."""
    return text.replace("\n", " / ")


ASKS = {
    "show": _show,
    "sides": _sides,
    "out": _out,
    "pattern": _pattern,
    "bounds": _bounds,
    "states": _states,
    "most": _most,
    "least": _least,
    "paper": _paper,
    "alike": _alike,
    "needless": _needless,
    "pieces": _pieces,
    "always": _always,
    "above": _above,
}
