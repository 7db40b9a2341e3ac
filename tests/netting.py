"""Nets made from others: such that turn nothing, and a plain look at whether two are alike within a box."""

from noughtcut.nets import Net, with_number, with_weight
from noughtcut.numbers import ratio, times
from tests.things import as_tuple, come_to
from tests.treeing import wishes_of
from tests.wishing import crossings, keeps_all


def scaled(net, layer, node, by):
    """The net in which a hidden node is taken so many times, and is taken as much less behind it."""
    row, number = net.layers_told()[layer][node]
    other = with_number(net, layer, node, times(number, by))
    for place, weight in enumerate(row):
        other = with_weight(other, layer, node, place, times(weight, by))
    for behind, (weights, _) in enumerate(net.layers_told()[layer + 1]):
        other = with_weight(other, layer + 1, behind, node, ratio(weights[node], by))
    return other


def exchanged(net, layer, one, other):
    """The net in which two nodes of a hidden layer have changed places."""
    layers = net.layers_told()
    layers[layer][one], layers[layer][other] = layers[layer][other], layers[layer][one]
    for at, (row, number) in enumerate(layers[layer + 1]):
        row = list(row)
        row[one], row[other] = row[other], row[one]
        layers[layer + 1][at] = (tuple(row), number)
    return Net(net.ins(), layers)


def are_alike(one, other, box):
    """Whether two nets are alike within a box: looked for at the crossings of every case of both."""
    hidden = one.hidden() + other.hidden()
    for pattern in range(2 ** hidden):
        wishes = wishes_of([one, other], box, pattern, hidden)
        for spot in crossings(wishes, len(box)):
            at = tuple(as_tuple(place) for place in spot)
            if keeps_all(wishes, spot) and come_to(one, at)[-1] != come_to(other, at)[-1]:
                return False
    return True
