"""Points 5 to 8 and 83: the pieces of a net within a box."""

import time
import unittest

from noughtcut.cases import sums_by
from noughtcut.errors import Large, NoBox
from noughtcut.nets import Net, net_of
from noughtcut.pieces import pieces_of
from tests.test_boxes import not_boxes, spots_of, tells
from tests.test_cover import BOX, FAR, SQUARE, drawn_nets
from tests.things import Draws, as_fraction, as_tuple, come_to, pattern_of, refused, row_of, strange_things
from tests.treeing import large_nets, wishes_of
from tests.wishing import crossings, keeps_all

SECONDS = 20


def seen_patterns(net, box):
    """Patterns that spots in a box have: of all crossings of every case, and of what lies between any three of them."""
    found = []
    for pattern in range(2 ** net.hidden()):
        wishes = wishes_of([net], box, pattern, net.hidden())
        spots = [spot for spot in crossings(wishes, len(box)) if keeps_all(wishes, spot)]
        if spots:
            # A case's middle has its pattern, where any spot at all has it.
            middle = tuple(as_tuple(sum(places) / len(spots)) for places in zip(*spots))
            if pattern_of(net, middle) == pattern:
                found.append(pattern)
    return found


class PiecesTest(unittest.TestCase):
    def held_against(self, net, box):
        """What is told, piece by piece, and at spots in the box."""
        told = pieces_of(net, box)
        self.assertIs(told.__class__, list)
        pieces = {}
        for piece in told:
            self.assertIs(piece.__class__, tuple)
            pattern, spot, sums = piece
            self.assertIs(pattern.__class__, int)
            self.assertEqual(pattern_of(net, spot), pattern)
            for (low, high), one in zip(box, spot):
                self.assertTrue(as_fraction(low) <= as_fraction(one) <= as_fraction(high))
            self.assertEqual(sums, tuple(sums_by(net, pattern)[-1]))
            pieces[pattern] = sums
        self.assertEqual(list(pieces), sorted(pieces))
        self.assertEqual(len(pieces), len(told))
        for spot in spots_of(Draws(2), box):
            sums = pieces[pattern_of(net, spot)]
            self.assertEqual([tells(one, spot) for one in sums], come_to(net, spot)[-1])
        return list(pieces)

    def test_known_ones(self):
        told = pieces_of(FAR, BOX)
        self.assertEqual([(pattern, sums) for pattern, _, sums in told], [
            (0, ((row_of(0), (3, 1)),)), (1, ((row_of(1), (2, 1)),)), (2, ((row_of(-1), (4, 1)),)),
        ])
        self.assertEqual(told[0][1], row_of(1))
        self.assertEqual(self.held_against(FAR, (row_of(1, 3),)), [0, 1])
        self.assertEqual(self.held_against(FAR, (row_of(2, 3),)), [1])
        self.assertEqual(self.held_against(FAR, (row_of(1, 1),)), [0])

    def test_without_hidden_nodes(self):
        net = Net(2, [[(row_of(1, 2), (3, 1)), (row_of(0, 0), (4, 1))]])
        self.assertEqual(self.held_against(net, SQUARE), [0])
        self.assertEqual(pieces_of(net, SQUARE)[0][2], ((row_of(1, 2), (3, 1)), (row_of(0, 0), (4, 1))))

    def test_patterns_rise_though_the_tree_goes_the_other_way(self):
        # The last node is kept only where the first one is cut.
        net = Net(1, [[(row_of(1), (0, 1)), (row_of(1), (5, 1)), (row_of(-1), (0, 1))], [(row_of(1, 1, 1), (0, 1))]])
        self.assertEqual(self.held_against(net, BOX), [2, 3, 6])

    def test_just_nought_is_cut(self):
        net = Net(2, [[(row_of(1, 1), (-2, 1)), (row_of(0, 0), (0, 1))], [(row_of(1, 1), (0, 1))]])
        self.assertEqual(self.held_against(net, SQUARE), [0])
        self.assertEqual(self.held_against(net, (row_of(0, 1), row_of(1, "1001/1000"))), [0, 1])

    def test_drawn_ones(self):
        many = 0
        for net, box in drawn_nets(261, 72):
            many += len(self.held_against(net, box))
        self.assertGreater(many, 150)

    def test_just_those_that_spots_have(self):
        for net, box in drawn_nets(262, 45):
            if net.hidden() < 5:
                self.assertEqual(self.held_against(net, box), seen_patterns(net, box))

    def test_asked_again(self):
        for net, box in drawn_nets(263, 12):
            told = pieces_of(net, box)
            kept = list(told)
            told.clear()
            self.assertEqual(pieces_of(net_of(net.told()), box), kept)

    def test_eight_hidden_nodes_over_three_ins(self):
        begun = time.perf_counter()
        for net in large_nets(264, ([4, 4, 4], [3, 3, 2, 2], [4, 2, 2, 1])):
            self.held_against(net, (row_of(-3, 3),) * 3)
        self.assertLess(time.perf_counter() - begun, SECONDS)


class RefusedTest(unittest.TestCase):
    def test_box_first(self):
        nine = Draws(265).net(1, [4, 4, 1, 1])
        for box in not_boxes() + strange_things() + [SQUARE, BOX * 3]:
            for net in (FAR, nine):
                self.assertIs(refused(self, NoBox, pieces_of, net, box), box)

    def test_then_too_many_hidden_nodes(self):
        draws = Draws(266)
        for shape, many in (([4, 4, 1, 1], 9), ([4, 4, 4, 1], 12)):
            self.assertEqual(refused(self, Large, pieces_of, draws.net(1, shape), BOX), many)


if __name__ == "__main__":
    unittest.main()
