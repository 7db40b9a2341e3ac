"""Points 8 and 66: how a node stands at the spots in a box."""

import unittest

from noughtcut.errors import Large, NoBox, NoNode
from noughtcut.handing import handed_on, states_of
from noughtcut.nets import Net, net_of, node_net
from noughtcut.trees import closes, node_state
from tests.test_boxes import not_boxes, spots_of
from tests.test_net_changes import NOT_COUNTS
from tests.things import Draws, as_fraction, come_to, refused, row_of, strange_things
from tests.treeing import is_tree, one_net

BOX = (row_of(-1, 2),)


class NodeStateTest(unittest.TestCase):
    def held_against(self, net, box, layer, node, told):
        """All that the document says of a node's state."""
        self.assertIsInstance(told, tuple)
        alone = [node_net(net, layer, node)]
        if told[0] == "both":
            word, one, other = told
            for spot in (one, other):
                for (low, high), part in zip(box, spot):
                    self.assertTrue(as_fraction(low) <= as_fraction(part) <= as_fraction(high))
            self.assertGreater(come_to(net, one)[layer][node], 0)
            self.assertLess(come_to(net, other)[layer][node], 0)
            return
        word, tree = told
        aim = {"cut": row_of(1), "kept": row_of(-1)}[word]
        self.assertTrue(is_tree(alone, box, aim, (0, 1), tree))
        self.assertIs(closes(alone, box, aim, (0, 1), tree), True)

    def test_nodes_of_the_first_layer(self):
        for number, word in ((-3, "cut"), (-2, "cut"), (-1, "both"), (0, "both"), ("1/2", "both"), (1, "kept"), (2, "kept")):
            net = Net(1, [[(row_of(1), row_of(number)[0])], [(row_of(1), (0, 1))]])
            told = node_state(net, BOX, 0, 0)
            self.assertEqual(told[0], word)
            self.held_against(net, BOX, 0, 0, told)

    def test_just_nought_everywhere_is_cut(self):
        net = Net(1, [[(row_of(0), (0, 1)), (row_of(1), (0, 1))], [(row_of(1, 0), (0, 1))]])
        self.assertEqual(node_state(net, BOX, 0, 0), ("cut", ("most", row_of(0, 0))))
        self.assertEqual(node_state(net, (row_of(0, 0),), 0, 1)[0], "cut")
        told = node_state(net, BOX, 1, 0)
        self.assertEqual(told[0], "cut")
        self.held_against(net, BOX, 1, 0, told)

    def test_what_bounds_dont_tell(self):
        # The in less itself: never above nought, never below, though the bounds that are handed on are wide.
        net = Net(1, [[(row_of(1), (0, 1))] * 2, [(row_of(1, -1), (0, 1)), (row_of(1, -1), (1, 9))], [(row_of(1, 1), (0, 1))]])
        self.assertEqual(states_of(net, BOX), ["open"] * 4)
        for node, word in ((0, "cut"), (1, "kept")):
            told = node_state(net, BOX, 1, node)
            self.assertEqual(told[0], word)
            self.held_against(net, BOX, 1, node, told)

    def test_all_nodes_of_drawn_nets(self):
        draws = Draws(141)
        words = {"cut": 0, "kept": 0, "both": 0}
        for at in range(45):
            net = one_net(draws, 1 + draws.below(3), at % 9)
            box = draws.box(net.ins())
            bounds = handed_on(net, box)
            for layer, nodes in enumerate(net.layers_told()):
                for node in range(len(nodes)):
                    told = node_state(net, box, layer, node)
                    words[told[0]] += 1
                    self.held_against(net, box, layer, node, told)
                    for spot in spots_of(draws, box):
                        one = come_to(net, spot)[layer][node]
                        self.assertFalse(told[0] == "cut" and one > 0)
                        self.assertFalse(told[0] == "kept" and one < 0)
                    if bounds[layer][node][1][0] <= 0:
                        self.assertEqual(told[0], "cut")
                    elif bounds[layer][node][0][0] >= 0:
                        self.assertIn(told[0], ("cut", "kept"))
        self.assertGreater(min(words.values()), 30)

    def test_only_hidden_nodes_ahead_count(self):
        net = Draws(142).net(2, [4, 4, 4, 2])
        box = (row_of(0, 1), row_of(0, 1))
        for layer in (0, 1, 2):
            self.held_against(net, box, layer, 3, node_state(net, box, layer, 3))
        self.assertEqual(refused(self, Large, node_state, net, box, 3, 0), 12)
        self.assertEqual(refused(self, Large, node_state, Draws(143).net(2, [4, 4, 1, 2]), box, 3, 1), 9)

    def test_asked_again(self):
        draws = Draws(144)
        net = draws.net(2, [3, 2, 1])
        box = draws.box(2)
        for layer, node in ((0, 0), (0, 2), (1, 1), (2, 0)):
            self.assertEqual(node_state(net, box, layer, node), node_state(net_of(net.told()), box, layer, node))


class RefusedTest(unittest.TestCase):
    def test_box_first(self):
        net = Draws(145).net(1, [4, 4, 1, 1])
        for box in not_boxes() + strange_things() + [BOX * 2, BOX * 3]:
            for layer, node in ((0, 0), (3, 0), (None, None), (9, 9)):
                self.assertIs(refused(self, NoBox, node_state, net, box, layer, node), box)

    def test_then_the_node(self):
        net = Draws(146).net(1, [4, 4, 1, 1])
        pairs = [(at, 0) for at in NOT_COUNTS + [4]] + [(layer, at) for layer in (0, 2, 3) for at in NOT_COUNTS]
        pairs += [(0, 4), (1, 4), (2, 1), (3, 1), (4, 0), (None, None)]
        pairs += [(thing, 0) for thing in strange_things()] + [(3, thing) for thing in strange_things()]
        for layer, node in pairs:
            found = refused(self, NoNode, node_state, net, BOX, layer, node)
            self.assertIsInstance(found, tuple)
            self.assertEqual(len(found), 2)
            self.assertIs(found[0], layer)
            self.assertIs(found[1], node)


if __name__ == "__main__":
    unittest.main()
