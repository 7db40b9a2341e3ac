"""What is wanted of a net's outs in a box: that a wish always holds, that an out is above all, that wishes meet."""

from noughtcut.boxes import MINUS_ONE, check_box_over, is_in
from noughtcut.branches import grown, is_empty, is_tree
from noughtcut.cases import out_sums
from noughtcut.errors import NoOut, NoWish
from noughtcut.kinds import is_sum
from noughtcut.numbers import NOUGHT, ONE, is_less, is_whole, minus
from noughtcut.settling import settle
from noughtcut.trees import check_large, closes, greatest_at
from noughtcut.wishes import are_against, holds, summed

MOST_WANTED = 8


def always_holds(net, box, wish):
    """That a wish over the outs holds at all spots in a box, with a tree, or a spot at which it does not."""
    _check_wish(net, box, wish)
    number, spot, tree = greatest_at([net], box, wish[0])
    if is_less(wish[1], number):
        return ("false", spot)
    return ("true", tree)


def shows_always(net, box, wish, thing):
    """Whether a thing is one of the two tuples that tell whether a wish always holds, and shows what it tells."""
    _check_wish(net, box, wish)
    if not isinstance(thing, tuple) or len(thing) != 2:
        return False
    word, told = thing
    if word == "false":
        return is_in(box, told) and not holds(wish, net.outs_at(told))
    return word == "true" and closes([net], box, wish[0], wish[1], told)


def above_all(net, box, out):
    """That no other out is more than an out anywhere in a box, with trees, or another one and a spot where it is."""
    _check_out(net, box, out)
    trees = []
    for other, aim in _others(net, out):
        number, spot, tree = greatest_at([net], box, aim)
        if number[0] > 0:
            return ("false", other, spot)
        trees.append(tree)
    return ("true", tuple(trees))


def shows_above(net, box, out, thing):
    """Whether a thing is one of the two tuples that tell whether an out is above all, and shows what it tells."""
    _check_out(net, box, out)
    if not isinstance(thing, tuple):
        return False
    if len(thing) == 3:
        word, other, spot = thing
        return word == "false" and _is_more(net, box, out, other, spot)
    if len(thing) != 2 or thing[0] != "true":
        return False
    trees = thing[1]
    if not isinstance(trees, tuple) or len(trees) != net.outs() - 1:
        return False
    return all([closes([net], box, aim, NOUGHT, tree) for (other, aim), tree in zip(_others(net, out), trees)])


def find_spot(net, box, wishes):
    """A spot in a box at which all wishes over the outs hold, or a tree that shows that there is none."""
    _check_wishes(net, box, wishes)

    def ended(of_case, pattern):
        answer = settle(box, of_case + _over_ins(net, wishes, pattern), (NOUGHT,) * len(box))
        if answer.has_spot():
            return (None, answer.spot)
        return (("against", answer.multiples), None)

    tree, spot = grown([net], box, ended)
    if spot is not None:
        return ("found", spot)
    return ("none", tree)


def shows_found(net, box, wishes, thing):
    """Whether a thing is one of the two tuples that tell whether wishes meet, and shows what it tells."""
    _check_wishes(net, box, wishes)
    if not isinstance(thing, tuple) or len(thing) != 2:
        return False
    word, told = thing
    if word == "found":
        return is_in(box, told) and all([holds(wish, net.outs_at(told)) for wish in wishes])

    def is_end(end, of_case, pattern, whole):
        if end[0] == "against":
            return whole and are_against(end[1], of_case + _over_ins(net, wishes, pattern), [])
        return is_empty(end, of_case)

    return word == "none" and is_tree([net], box, told, is_end)


def _others(net, out):
    """For each other out its number, and the aim that weighs how much more it is than the out."""
    found = []
    for other in range(net.outs()):
        if other != out:
            aim = [NOUGHT] * net.outs()
            aim[other] = ONE
            aim[out] = MINUS_ONE
            found.append((other, tuple(aim)))
    return found


def _is_more(net, box, out, other, spot):
    """Whether another out is more than an out at a spot, which lies in the box."""
    if not _is_out(net, other) or not is_in(box, spot):
        return False
    outs = net.outs_at(spot)
    return is_less(outs[out], outs[other])


def _over_ins(net, wishes, pattern):
    """Wishes over the outs as wishes over the ins, by a pattern."""
    outs = out_sums([net], pattern)
    found = []
    for weights, most in wishes:
        row, number = summed(outs, weights, net.ins())
        found.append((row, minus(most, number)))
    return found


def _is_out(net, thing):
    """Whether a thing is the number of an out."""
    return is_whole(thing) and 0 <= thing < net.outs()


def _check_wish(net, box, wish):
    """Refuse what is no box for a net, then what is no wish over its outs, then too many hidden nodes."""
    check_box_over(box, net.ins())
    if not is_sum(wish, net.outs()):
        raise NoWish(wish)
    check_large([net])


def _check_out(net, box, out):
    """Refuse what is no box for a net, then what is no out, then too many hidden nodes."""
    check_box_over(box, net.ins())
    if not _is_out(net, out):
        raise NoOut(out)
    check_large([net])


def _check_wishes(net, box, wishes):
    """Refuse what is no box for a net, then what are no wishes over its outs, then too many hidden nodes."""
    check_box_over(box, net.ins())
    if not isinstance(wishes, (list, tuple)) or len(wishes) > MOST_WANTED:
        raise NoWish(wishes)
    for wish in wishes:
        if not is_sum(wish, net.outs()):
            raise NoWish(wish)
    check_large([net])
