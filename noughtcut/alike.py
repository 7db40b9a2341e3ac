"""Two nets held against one another within a box: alike, with a tree over both, or unlike, with an out and a spot."""

from noughtcut.boxes import MINUS_ONE, check_box_over, corners, is_in
from noughtcut.branches import grown, is_empty, is_tree
from noughtcut.cases import case_wishes, hidden_sums, out_sums
from noughtcut.errors import NoFit
from noughtcut.numbers import NOUGHT, is_whole
from noughtcut.settling import settle
from noughtcut.sums import sum_at, sum_plus, sum_times
from noughtcut.trees import check_large
from noughtcut.wishes import are_bound


def told_alike(one, other, box):
    """That two nets are alike within a box, with a tree, or the number of an out and a spot where they are not."""
    _check_two(one, other, box)
    nets = [one, other]

    def ended(wishes, pattern):
        rows = []
        for out, sums in enumerate(_both_ways(nets, pattern)):
            answers = [settle(box, wishes, side[0]) for side in sums]
            for by, answer in zip(sums, answers):
                if sum_at(by, answer.spot)[0] > 0:
                    return (None, (out, answer.spot))
            rows.append(tuple([told.multiples for told in answers]))
        return (("same", tuple(rows)), None)

    tree, found = grown(nets, box, ended)
    if found is not None:
        return ("unlike",) + found
    return ("alike", tree)


def shows_alike(one, other, box, thing):
    """Whether a thing is one of the two tuples, and shows what it tells."""
    _check_two(one, other, box)
    if not isinstance(thing, tuple):
        return False
    if len(thing) == 3:
        word, out, spot = thing
        return word == "unlike" and _are_unlike(one, other, box, out, spot)
    return len(thing) == 2 and thing[0] == "alike" and _is_same_tree([one, other], box, thing[1])


def are_alike(one, other, box):
    """Whether two nets that fit, and a box, are alike within it: what told_alike tells, sooner, for no tree is told."""
    # Most nets that are not alike are unlike at some corner of the box, where that is seen at once.
    for spot in corners(box):
        if one.outs_at(spot) != other.outs_at(spot):
            return False
    return _agree([one, other], box, 0, 0)


def _are_unlike(one, other, box, out, spot):
    """Whether an out of this number, at a spot in the box, isn't the same of both nets."""
    if not is_whole(out) or not 0 <= out < one.outs() or not is_in(box, spot):
        return False
    return one.outs_at(spot)[out] != other.outs_at(spot)[out]


def _is_same_tree(nets, box, thing):
    """Whether a thing is a tree that shows that two nets are alike within a box."""

    def is_end(end, wishes, pattern, whole):
        if end[0] == "same":
            return whole and _are_same(end[1], wishes, _both_ways(nets, pattern))
        return is_empty(end, wishes)

    return is_tree(nets, box, thing, is_end)


def _are_same(thing, wishes, both_ways):
    """Whether a thing has two rows of multiples for each out, which show that it is no more, and no less."""
    if not isinstance(thing, tuple) or len(thing) != len(both_ways):
        return False
    for pair, sums in zip(thing, both_ways):
        if not isinstance(pair, tuple) or len(pair) != 2:
            return False
        if not all([are_bound(multiples, wishes, by, NOUGHT) for multiples, by in zip(pair, sums)]):
            return False
    return True


def _agree(nets, box, pattern, many):
    """Whether in a case the outs of two nets are the same."""
    wishes = case_wishes(nets, pattern, many)
    if not settle(box, wishes, (NOUGHT,) * len(box)).has_spot():
        return True
    sums = hidden_sums(nets, pattern)
    if many == len(sums):
        return all([_is_nowhere_more(box, wishes, by) for pair in _both_ways(nets, pattern) for by in pair])
    bits = (0, 1)
    # Of two nodes that come to the same sum, at each spot both are cut or both are kept.
    if sums[many] in sums[:many]:
        bits = (pattern >> sums.index(sums[many]) & 1,)
    for bit in bits:
        if not _agree(nets, box, pattern + (bit << many), many + 1):
            return False
    return True


def _is_nowhere_more(box, wishes, by):
    """Whether a sum is above nought at no spot that keeps all wishes, of which there are some."""
    return sum_at(by, settle(box, wishes, by[0]).spot)[0] <= 0


def _both_ways(nets, pattern):
    """For each out a tuple of two sums: the one net's less the other's, and the other's less the one's."""
    sums = out_sums(nets, pattern)
    many = nets[0].outs()
    found = []
    for mine, its in zip(sums[:many], sums[many:]):
        more = sum_plus(mine, sum_times(MINUS_ONE, its))
        found.append((more, sum_times(MINUS_ONE, more)))
    return found


def _check_two(one, other, box):
    """Refuse another net of unlike ins or outs, then what is no box for them, then too many hidden nodes."""
    if one.ins() != other.ins() or one.outs() != other.outs():
        raise NoFit(other)
    check_box_over(box, one.ins())
    check_large([one, other])
