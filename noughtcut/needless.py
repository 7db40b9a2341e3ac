"""What may go from a net within a box: wires and hidden nodes without which it is alike, and the net slimmed."""

from noughtcut.alike import are_alike
from noughtcut.boxes import check_box_over
from noughtcut.errors import NoNode
from noughtcut.nets import Net, check_node, with_weight
from noughtcut.numbers import NOUGHT
from noughtcut.trees import check_large


def without_wire(net, layer, node, place):
    """The net with nought as the weight by which a node takes the thing at a place ahead of it."""
    return with_weight(net, layer, node, place, NOUGHT)


def hushed(net, layer, node):
    """The net in which no node of the layer behind takes a hidden node."""
    check_node(net, layer, node)
    layers = net.layers_told()
    if layer == len(layers) - 1:
        raise NoNode((layer, node))
    behind = layers[layer + 1]
    layers[layer + 1] = [(row[:node] + (NOUGHT,) + row[node + 1:], number) for row, number in behind]
    return Net(net.ins(), layers)


def needless_wires(net, box):
    """The wires each of which, by itself, may go within a box."""
    _check_twice(net, box)
    return [wire for wire in _wires(net) if _may_go(net, box, wire)]


def needless_nodes(net, box):
    """The hidden nodes each of which, by itself, may go within a box."""
    _check_twice(net, box)
    taken = [(layer - 1, place) for layer, node, place in _wires(net)]
    found = []
    for layer, node in net.places():
        if (layer, node) in taken and are_alike(hushed(net, layer, node), net, box):
            found.append((layer, node))
    return found


def slimmed(net, box):
    """The net that is left where the first needless wire goes as long as there is one, and the wires that went."""
    _check_twice(net, box)
    gone = []
    wire = _first_needless(net, box)
    while wire is not None:
        layer, node, place = wire
        net = without_wire(net, layer, node, place)
        gone.append(wire)
        wire = _first_needless(net, box)
    return (net, gone)


def _wires(net):
    """The wires whose weight isn't nought, in the order of layers, nodes and places."""
    found = []
    for layer, nodes in enumerate(net.layers_told()):
        for node, (row, number) in enumerate(nodes):
            found += [(layer, node, place) for place, weight in enumerate(row) if weight != NOUGHT]
    return found


def _may_go(net, box, wire):
    """Whether the net without a wire is alike to it."""
    layer, node, place = wire
    return are_alike(without_wire(net, layer, node, place), net, box)


def _first_needless(net, box):
    """The first needless wire of a net, or None."""
    for wire in _wires(net):
        if _may_go(net, box, wire):
            return wire
    return None


def _check_twice(net, box):
    """Refuse what is no box for a net, then a net with too many hidden nodes to be held against another such one."""
    check_box_over(box, net.ins())
    check_large([net, net])
