"""The pieces of a net within a box: which patterns there are, shown by a cover, and the outs' sums on each of them."""

from noughtcut.boxes import box_wishes, check_box_over, is_in
from noughtcut.branches import is_tree
from noughtcut.cases import case_wishes, out_sums
from noughtcut.settling import settled_strictly
from noughtcut.trees import check_large
from noughtcut.wishes import are_against


def cover_of(net, box):
    """A tree over the hidden nodes with a spot for each pattern that some spot in the box has."""
    _check_one(net, box)
    return _cover(net, box, 0, 0)


def is_cover(net, box, thing):
    """Whether a thing is such a tree."""
    _check_one(net, box)

    def is_end(end, wishes, pattern, whole):
        word, told = end
        if word == "piece":
            return whole and is_in(box, told) and net.pattern_at(told) == pattern
        return word == "none" and are_against(told, wishes, _kept_places(box, pattern))

    return is_tree([net], box, thing, is_end)


def pieces_of(net, box):
    """The patterns that spots in the box have, rising, each with a spot that has it and the outs' sums by it."""
    spots = _spots_of(cover_of(net, box), 0, 1)
    return [(pattern, spots[pattern], tuple(out_sums([net], pattern))) for pattern in sorted(spots)]


def _cover(net, box, pattern, many):
    """The tree for a case in which so many hidden nodes are decided by a pattern."""
    wishes = box_wishes(box) + case_wishes([net], pattern, many)
    answer = settled_strictly(wishes, _kept_places(box, pattern), len(box))
    if not answer.has_spot():
        return ("none", answer.multiples)
    if many == net.hidden():
        return ("piece", answer.spot)
    return ("two", _cover(net, box, pattern, many + 1), _cover(net, box, pattern + (1 << many), many + 1))


def _kept_places(box, pattern):
    """The places of the wishes of the nodes that a pattern keeps, behind those of the box."""
    ahead = 2 * len(box)
    return [ahead + at for at in range(pattern.bit_length()) if pattern >> at & 1]


def _spots_of(tree, pattern, worth):
    """The spots of the pieces of a tree by their patterns; the node that it decides has a bit of this worth."""
    if tree[0] == "none":
        return {}
    if tree[0] == "piece":
        return {pattern: tree[1]}
    return {**_spots_of(tree[1], pattern, 2 * worth), **_spots_of(tree[2], pattern + worth, 2 * worth)}


def _check_one(net, box):
    """Refuse what is no box for a net, then a net with too many hidden nodes."""
    check_box_over(box, net.ins())
    check_large([net])
