"""Cases of nets by a pattern of their hidden nodes: sums over the ins, and the wishes of a case."""

from noughtcut.boxes import MINUS_ONE, box_wishes, check_box_over
from noughtcut.errors import NoFit, NoNumber, NoPattern
from noughtcut.nets import Net
from noughtcut.numbers import NOUGHT, is_whole, times
from noughtcut.sums import flat_sum, place_sum, sum_times
from noughtcut.through import through


def sums_by(net, pattern):
    """What all nodes come to by a pattern, layer by layer, as sums over the ins."""
    _check_pattern(pattern, net.hidden())
    many = net.ins()
    ahead = [place_sum(many, place) for place in range(many)]
    found = []
    bits = pattern
    for nodes in net.layers_told():
        sums = [through(node, ahead, ahead, many) for node in nodes]
        found.append(sums)
        ahead = []
        for one in sums:
            ahead.append(one if bits & 1 else flat_sum(many, NOUGHT))
            bits = bits >> 1
    return found


def wishes_by(nets, box, pattern, many):
    """The wishes of the case in which the first so many hidden nodes are settled by a pattern."""
    check_nets(nets, box)
    _check_pattern(pattern, hidden_of(nets))
    if not is_whole(many) or not 0 <= many <= hidden_of(nets):
        raise NoNumber(many)
    return box_wishes(box) + case_wishes(nets, pattern, many)


def case_wishes(nets, pattern, many):
    """The wishes of a case behind those of the box."""
    wishes = []
    bits = pattern
    for row, number in hidden_sums(nets, pattern)[:many]:
        at_most_nought = (row, times(MINUS_ONE, number))
        wishes.append(sum_times(MINUS_ONE, at_most_nought) if bits & 1 else at_most_nought)
        bits = bits >> 1
    return wishes


def hidden_sums(nets, pattern):
    """What the hidden nodes of all nets come to by a pattern of them all."""
    return [one for layers in _each_by(nets, pattern) for sums in layers[:-1] for one in sums]


def out_sums(nets, pattern):
    """What the outs of all nets come to by a pattern of all hidden nodes."""
    return [one for layers in _each_by(nets, pattern) for one in layers[-1]]


def hidden_of(nets):
    """How many hidden nodes the nets have together."""
    return sum([net.hidden() for net in nets])


def outs_of(nets):
    """How many outs the nets have together."""
    return sum([net.outs() for net in nets])


def check_nets(nets, box):
    """Refuse what are not one or two nets of as many ins each, then what is no box for them."""
    if not isinstance(nets, (list, tuple)) or not 1 <= len(nets) <= 2:
        raise NoFit(nets)
    if not all([isinstance(net, Net) for net in nets]) or nets[0].ins() != nets[-1].ins():
        raise NoFit(nets)
    check_box_over(box, nets[0].ins())


def _each_by(nets, pattern):
    """Of each net what its nodes come to by its own bits of the pattern."""
    found = []
    bits = pattern
    for net in nets:
        hidden = net.hidden()
        found.append(sums_by(net, bits & ((1 << hidden) - 1)))
        bits = bits >> hidden
    return found


def _check_pattern(pattern, hidden):
    """Refuse what is no pattern of so many hidden nodes."""
    if not is_whole(pattern) or not 0 <= pattern < (1 << hidden):
        raise NoPattern(pattern)
