"""Nets: layer by layer sums over what stands ahead, cut at nought in all layers but the last."""

from noughtcut.errors import NoNet, NoNode, NoNumber, NoSpot, NoWire
from noughtcut.kinds import is_sum
from noughtcut.layers import CutLayer, Layer
from noughtcut.numbers import cut_at_nought, is_fraction, is_row, is_whole

MOST_INS = 3
MOST_LAYERS = 4
MOST_NODES = 4


class Net:
    """A net: how many numbers it takes, and its layers. It never changes."""

    def __init__(self, ins, layers):
        if not _are_ins(ins):
            raise NoNet(ins)
        if not _are_layers(layers, ins):
            raise NoNet(layers)
        self._ins = ins
        self._layers = tuple([CutLayer(nodes) for nodes in layers[:-1]] + [Layer(layers[-1])])

    def ins(self):
        """How many numbers it takes."""
        return self._ins

    def outs(self):
        """How many nodes its last layer has."""
        return len(self._layers[-1].told())

    def hidden(self):
        """How many nodes all layers but the last have."""
        return sum([len(layer.told()) for layer in self._layers[:-1]])

    def layers_told(self):
        """The layers, each as a list of its nodes."""
        return [list(layer.told()) for layer in self._layers]

    def places(self):
        """The layer and the node of each hidden node."""
        found = []
        for at, layer in enumerate(self._layers[:-1]):
            found += [(at, node) for node in range(len(layer.told()))]
        return found

    def told(self):
        """All of the net: how many numbers it takes, and a tuple of its layers, each a tuple of its nodes."""
        return (self._ins, tuple([layer.told() for layer in self._layers]))

    def outs_at(self, spot):
        """What the nodes of the last layer come to at a spot."""
        return self.sums_at(spot)[-1]

    def sums_at(self, spot):
        """What all nodes come to at a spot, layer by layer, none of them cut."""
        if not is_row(spot, self._ins):
            raise NoSpot(spot)
        found = []
        ahead = spot
        for layer in self._layers:
            sums = layer.sums(ahead)
            found.append(sums)
            # To ask the layer what it passes on would reckon all sums once more, and they may be long.
            ahead = tuple([cut_at_nought(one) for one in sums])
        return found

    def pattern_at(self, spot):
        """The whole number with a bit for each hidden node, 1 where the node comes to more than nought."""
        pattern = 0
        worth = 1
        for sums in self.sums_at(spot)[:-1]:
            for one in sums:
                if one[0] > 0:
                    pattern = pattern + worth
                worth = 2 * worth
        return pattern


def net_of(told):
    """The net that tells this tuple."""
    if not isinstance(told, tuple) or len(told) != 2:
        raise NoNet(told)
    ins, layers = told
    if not isinstance(layers, tuple) or not all([isinstance(nodes, tuple) for nodes in layers]):
        raise NoNet(told)
    if not _are_ins(ins) or not _are_layers(layers, ins):
        raise NoNet(told)
    return Net(ins, layers)


def same_net(one, other):
    """Whether two nets tell the same."""
    return one.told() == other.told()


def with_weight(net, layer, node, place, number):
    """The net with this number as the weight by which a node takes the thing at a place ahead of it."""
    layers = net.layers_told()
    check_node(net, layer, node)
    row, beside = layers[layer][node]
    if not is_whole(place) or not 0 <= place < len(row):
        raise NoWire(place)
    if not is_fraction(number):
        raise NoNumber(number)
    layers[layer][node] = (row[:place] + (number,) + row[place + 1:], beside)
    return Net(net.ins(), layers)


def with_number(net, layer, node, number):
    """The net with this number beside the weights of a node."""
    layers = net.layers_told()
    check_node(net, layer, node)
    if not is_fraction(number):
        raise NoNumber(number)
    layers[layer][node] = (layers[layer][node][0], number)
    return Net(net.ins(), layers)


def node_net(net, layer, node):
    """The net of which this node is the only out."""
    check_node(net, layer, node)
    layers = net.layers_told()
    return Net(net.ins(), layers[:layer] + [[layers[layer][node]]])


def check_node(net, layer, node):
    """Refuse what is not the number of a layer of the net, and of one of its nodes."""
    layers = net.layers_told()
    if not is_whole(layer) or not 0 <= layer < len(layers):
        raise NoNode((layer, node))
    if not is_whole(node) or not 0 <= node < len(layers[layer]):
        raise NoNode((layer, node))


def _are_ins(thing):
    """Whether a thing tells how many numbers a net may take."""
    return is_whole(thing) and 1 <= thing <= MOST_INS


def _are_layers(thing, ins):
    """Whether a thing is a list or a tuple of layers, the first of them over so many ins."""
    if not isinstance(thing, (list, tuple)) or not 1 <= len(thing) <= MOST_LAYERS:
        return False
    ahead = ins
    for nodes in thing:
        if not isinstance(nodes, (list, tuple)) or not 1 <= len(nodes) <= MOST_NODES:
            return False
        if not all([is_sum(node, ahead) for node in nodes]):
            return False
        ahead = len(nodes)
    return True
