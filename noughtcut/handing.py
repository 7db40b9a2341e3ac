"""Bounds handed on: what each node of a net comes to in a box at least and at most, by those of the nodes ahead."""

from noughtcut.boxes import check_box_over, high_corner, low_corner, spot_at
from noughtcut.numbers import cut_at_nought
from noughtcut.sums import sum_at


def handed_on(net, box):
    """For each node of each layer its low, its high, and the corners of what is ahead that tell them."""
    check_box_over(box, net.ins())
    found = []
    spans = box
    for nodes in net.layers_told():
        bounds = [_bounds(node, spans) for node in nodes]
        found.append(bounds)
        spans = [(cut_at_nought(bound[0]), cut_at_nought(bound[1])) for bound in bounds]
    return found


def states_of(net, box):
    """For each hidden node whether by these bounds it is cut, kept or open."""
    return [_state(bound[0], bound[1]) for bounds in handed_on(net, box)[:-1] for bound in bounds]


def _bounds(node, spans):
    """A node's low, its high, and the corners that tell them."""
    below = low_corner(node)
    above = high_corner(node)
    return (sum_at(node, spot_at(spans, below)), sum_at(node, spot_at(spans, above)), below, above)


def _state(low, high):
    """The word for a node by its low and its high."""
    if high[0] <= 0:
        return "cut"
    if low[0] >= 0:
        return "kept"
    return "open"
