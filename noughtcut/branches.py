"""Trees of cases: gone through without belief, and grown until something is found at an end.

A case is told by a pattern and by how many hidden nodes are decided, the first ones; all other bits are 0.
"""

from noughtcut.boxes import box_wishes
from noughtcut.cases import case_wishes, hidden_of
from noughtcut.numbers import NOUGHT
from noughtcut.settling import settle
from noughtcut.wishes import are_against


def is_tree(nets, box, thing, is_end):
    """Whether a thing is a tree of which every end does, as is_end tells of it.

    It is asked with the end, a tuple of two things, the wishes of the case, the pattern, and whether all hidden nodes
    are decided.
    """
    return _is_branch(nets, box, thing, is_end, 0, 0)


def is_empty(end, wishes):
    """Whether an end is one that shows that no spot keeps the wishes of its case."""
    return end[0] == "empty" and are_against(end[1], wishes, [])


def grown(nets, box, ended):
    """A tuple of a tree and of None, or one of None and of what was found at the first end at which something was.

    Of each case in which all hidden nodes are decided, and that isn't empty, ended tells such a tuple, of its wishes
    and its pattern.
    """
    return _branch(nets, box, ended, 0, 0)


def _is_branch(nets, box, thing, is_end, pattern, many):
    """Whether a thing is such a tree for a case."""
    if not isinstance(thing, tuple) or len(thing) not in (2, 3):
        return False
    whole = many == hidden_of(nets)
    if len(thing) == 2:
        wishes = box_wishes(box) + case_wishes(nets, pattern, many)
        return is_end(thing, wishes, pattern, whole)
    if thing[0] != "two" or whole:
        return False
    if not _is_branch(nets, box, thing[1], is_end, pattern, many + 1):
        return False
    return _is_branch(nets, box, thing[2], is_end, pattern + (1 << many), many + 1)


def _branch(nets, box, ended, pattern, many):
    """What is grown for a case."""
    wishes = case_wishes(nets, pattern, many)
    answer = settle(box, wishes, (NOUGHT,) * len(box))
    if not answer.has_spot():
        return (("empty", answer.multiples), None)
    if many == hidden_of(nets):
        return ended(wishes, pattern)
    cut, found = _branch(nets, box, ended, pattern, many + 1)
    if found is not None:
        return (None, found)
    kept, found = _branch(nets, box, ended, pattern + (1 << many), many + 1)
    if found is not None:
        return (None, found)
    return (("two", cut, kept), None)
