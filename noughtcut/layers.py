"""Layers of nodes: plain ones pass on what their nodes come to, cut ones nought in its place below it."""

from noughtcut.numbers import cut_at_nought
from noughtcut.sums import sum_at


class Layer:
    """A plain layer, made of sums that are all over as many things."""

    def __init__(self, nodes):
        # A tuple of its own: what is done later to a list that was handed in must not show here.
        self._nodes = tuple(nodes)

    def told(self):
        """The nodes, as a tuple of sums."""
        return self._nodes

    def sums(self, ahead):
        """What the nodes come to at a row of what stands ahead."""
        return _reckoned(self._nodes, ahead)

    def passed(self, ahead):
        """What is passed on at a row of what stands ahead."""
        return _reckoned(self._nodes, ahead)


class CutLayer(Layer):
    """A cut layer: what its nodes come to is cut at nought ahead of being passed on."""

    def told(self):
        """The nodes, as a tuple of sums."""
        return self._nodes

    def sums(self, ahead):
        """What the nodes come to at a row of what stands ahead, not yet cut."""
        return _reckoned(self._nodes, ahead)

    def passed(self, ahead):
        """What is passed on at a row of what stands ahead: each sum cut at nought."""
        return tuple([cut_at_nought(one) for one in _reckoned(self._nodes, ahead)])


def _reckoned(nodes, ahead):
    """What nodes come to at a row, in their order."""
    return tuple([sum_at(node, ahead) for node in nodes])
