"""Trees of cases: the greatest and the least that an aim weighs the outs of nets in a box, shown case by case.

A case is told by a pattern and by how many hidden nodes are settled, the first ones; all other bits are 0.
"""

from noughtcut.boxes import MINUS_ONE, check_box_over
from noughtcut.branches import is_empty, is_tree
from noughtcut.cases import case_wishes, check_nets, hidden_of, out_sums, outs_of
from noughtcut.errors import Large, NoAim, NoNumber
from noughtcut.nets import node_net
from noughtcut.numbers import NOUGHT, ONE, is_fraction, is_less, is_row, plus, times, weigh
from noughtcut.settling import settle
from noughtcut.wishes import are_bound, summed

MOST_HIDDEN = 8


def greatest_at(nets, box, aim):
    """The greatest that an aim weighs the outs in a box, a spot where it does, and a tree that closes the aim at it."""
    _check_aim(nets, box, aim)
    check_large(nets)
    tree, best = _grown(nets, box, aim, 0, 0)
    # Each spot in the box is in some case, so that there is a best one.
    number, spot = best
    return (number, spot, tree)


def least_at(nets, box, aim):
    """The least that an aim weighs the outs, a spot where it does, and a tree that closes the opposite of both."""
    _check_aim(nets, box, aim)
    number, spot, tree = greatest_at(nets, box, tuple([times(MINUS_ONE, one) for one in aim]))
    return (times(MINUS_ONE, number), spot, tree)


def closes(nets, box, aim, number, tree):
    """Whether a thing is a tree that closes an aim at a number."""
    _check_aim(nets, box, aim)
    if not is_fraction(number):
        raise NoNumber(number)
    check_large(nets)

    def is_end(end, wishes, pattern, whole):
        if end[0] == "most":
            return whole and are_bound(end[1], wishes, aim_by(nets, aim, pattern), number)
        return is_empty(end, wishes)

    return is_tree(nets, box, tree, is_end)


def node_state(net, box, layer, node):
    """Whether a node is cut or kept at all spots in a box, with a tree, or both, with a spot for each."""
    check_box_over(box, net.ins())
    nets = [node_net(net, layer, node)]
    most, above, tree = greatest_at(nets, box, (ONE,))
    if most[0] <= 0:
        return ("cut", tree)
    least, below, tree = least_at(nets, box, (ONE,))
    if least[0] >= 0:
        return ("kept", tree)
    return ("both", above, below)


def check_large(nets):
    """Refuse nets that have too many hidden nodes together to go through all their cases."""
    if hidden_of(nets) > MOST_HIDDEN:
        raise Large(hidden_of(nets))


def aim_by(nets, aim, pattern):
    """The sum over the ins that an aim comes to by a pattern of all hidden nodes."""
    return summed(out_sums(nets, pattern), aim, nets[0].ins())


def _grown(nets, box, aim, pattern, many):
    """A tree for a case, and the greatest in it with its spot, a tuple, or None where the case is empty."""
    wishes = case_wishes(nets, pattern, many)
    if many == hidden_of(nets):
        row, number = aim_by(nets, aim, pattern)
        answer = settle(box, wishes, row)
        if answer.has_spot():
            return (("most", answer.multiples), (plus(weigh(row, answer.spot), number), answer.spot))
    else:
        answer = settle(box, wishes, (NOUGHT,) * len(box))
        if answer.has_spot():
            cut, one = _grown(nets, box, aim, pattern, many + 1)
            kept, other = _grown(nets, box, aim, pattern + (1 << many), many + 1)
            return (("two", cut, kept), _greater(one, other))
    return (("empty", answer.multiples), None)


def _greater(one, other):
    """The one of two tuples (number, spot), each perhaps None, that has the greater number."""
    if one is None:
        return other
    if other is None or not is_less(one[0], other[0]):
        return one
    return other


def _check_aim(nets, box, aim):
    """Refuse what are no nets to look at together, then no box for them, then no aim for their outs."""
    check_nets(nets, box)
    if not is_row(aim, outs_of(nets)):
        raise NoAim(aim)
