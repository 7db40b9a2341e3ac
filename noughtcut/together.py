"""Nets put together: one behind another, two beside one another, and the opposite of one."""

from noughtcut.boxes import MINUS_ONE
from noughtcut.errors import NoFit
from noughtcut.nets import MOST_LAYERS, MOST_NODES, Net
from noughtcut.numbers import NOUGHT
from noughtcut.sums import sum_times
from noughtcut.through import through


def behind(one, other):
    """The net that tells what the other tells at the outs of the one."""
    first, second = one.layers_told(), other.layers_told()
    if other.ins() != one.outs() or len(first) + len(second) - 1 > MOST_LAYERS:
        raise NoFit(other)
    last = first[-1]
    # What the last layer of the one stands upon, so many things, is what the other's first layer stands upon now.
    many = len(last[0][0])
    joint = [through(node, last, last, many) for node in second[0]]
    return Net(one.ins(), first[:-1] + [joint] + second[1:])


def beside(one, other):
    """The net whose outs are those of the one and then those of the other."""
    first, second = one.layers_told(), other.layers_told()
    if other.ins() != one.ins() or len(first) != len(second):
        raise NoFit(other)
    layers = [first[0] + second[0]]
    for at in range(1, len(first)):
        layers.append(_wider(first[at], 0, len(second[at - 1])) + _wider(second[at], len(first[at - 1]), 0))
    if max([len(nodes) for nodes in layers]) > MOST_NODES:
        raise NoFit(other)
    return Net(one.ins(), layers)


def opposite(net):
    """The net of which each out is nought less the net's."""
    layers = net.layers_told()
    return Net(net.ins(), layers[:-1] + [[sum_times(MINUS_ONE, node) for node in layers[-1]]])


def _wider(nodes, ahead, after):
    """The nodes, taking nothing of so many more things ahead of and behind those that they take."""
    return [((NOUGHT,) * ahead + row + (NOUGHT,) * after, number) for row, number in nodes]
