"""Tighter sums: sums over the ins that each node of a net is never below, and never above, in a box."""

from noughtcut.boxes import greatest_of, least_of
from noughtcut.handing import handed_on
from noughtcut.numbers import NOUGHT, is_less, minus, plus, ratio
from noughtcut.sums import flat_sum, place_sum, sum_times
from noughtcut.through import through


def tightened(net, box):
    """For each node of each layer the sum under it, the sum over it, its low and its high."""
    handed = handed_on(net, box)
    many = net.ins()
    # The ins themselves pass on what they are, so that a node of the first layer comes to its own sum.
    unders = [place_sum(many, place) for place in range(many)]
    overs = unders
    found = []
    for nodes, bounds in zip(net.layers_told(), handed):
        fours = []
        for node, bound in zip(nodes, bounds):
            under = through(node, unders, overs, many)
            over = through(node, overs, unders, many)
            fours.append(_four(box, under, over, bound))
        found.append(fours)
        unders = [_under_passed(four, many) for four in fours]
        overs = [_over_passed(four, many) for four in fours]
    return found


def _four(box, under, over, bound):
    """The two sums of a node, and the nearer ones of what they tell in the box and of the bounds handed on."""
    low = least_of(box, under)[0]
    if is_less(low, bound[0]):
        low = bound[0]
    high = greatest_of(box, over)[0]
    if is_less(bound[1], high):
        high = bound[1]
    return (under, over, low, high)


def _under_passed(four, many):
    """The sum that what is passed on of a node is never below."""
    under, over, low, high = four
    # Low and high together come to more than nought where the node is kept, too, and never where it is cut.
    if plus(low, high)[0] > 0:
        return under
    return flat_sum(many, NOUGHT)


def _over_passed(four, many):
    """The sum that what is passed on of a node is never above."""
    under, over, low, high = four
    if high[0] <= 0:
        return flat_sum(many, NOUGHT)
    if low[0] >= 0:
        return over
    # The straight line from nought at low to high at high: nothing cut at nought is above it in between.
    row, number = over
    return sum_times(ratio(high, minus(high, low)), (row, minus(number, low)))
