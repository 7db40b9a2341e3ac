"""Points 26 to 28: nets with one number otherwise, the net of a node, and what turns no out."""

import unittest

from noughtcut.errors import NoNode, NoNumber, NoWire
from noughtcut.nets import Net, node_net, same_net, with_number, with_weight
from tests.netting import exchanged, scaled
from tests.things import Draws, as_fraction, come_to, refused, strange_things

NOT_COUNTS = [True, False, -1, -2, 10 ** 400 - 1, "0", "", None, [0], (0,), (0, 1), {}, {0: 0}, [], ()]


def changed(net, layer, node, new):
    """What a net tells, but with another sum for one node."""
    ins, layers = net.told()
    layers = [list(nodes) for nodes in layers]
    layers[layer][node] = new
    return (ins, tuple(tuple(nodes) for nodes in layers))


class WithTest(unittest.TestCase):
    def test_just_one_weight_is_otherwise(self):
        net = Draws(11).net(3, [2, 4, 3, 2])
        told = net.told()
        for layer, nodes in enumerate(told[1]):
            for node, (row, number) in enumerate(nodes):
                for place in range(len(row)):
                    for new in ((7, 1), (-22, 7), (0, 1), row[place]):
                        other = with_weight(net, layer, node, place, new)
                        wanted = tuple(new if at == place else one for at, one in enumerate(row))
                        self.assertIsInstance(other, Net)
                        self.assertEqual(other.told(), changed(net, layer, node, (wanted, number)))
                        self.assertIs(same_net(net, other), new == row[place])
                        self.assertEqual(net.told(), told)

    def test_just_one_number_is_otherwise(self):
        net = Draws(12).net(2, [3, 2, 4])
        told = net.told()
        for layer, nodes in enumerate(told[1]):
            for node, (row, number) in enumerate(nodes):
                for new in ((9, 1), (-5, 3), (0, 1), number):
                    other = with_number(net, layer, node, new)
                    self.assertIsInstance(other, Net)
                    self.assertEqual(other.told(), changed(net, layer, node, (row, new)))
                    self.assertIs(same_net(net, other), new == number)
                    self.assertEqual(net.told(), told)

    def test_no_such_node(self):
        net = Draws(13).net(2, [3, 1, 2])
        wrong = [(at, 0) for at in NOT_COUNTS + [3, 4]] + [(layer, at) for layer in (0, 1, 2) for at in NOT_COUNTS]
        wrong += [(0, 3), (1, 1), (2, 2), (1, 2), (3, 0), (None, None), (True, True), (-1, -1)]
        for layer, node in wrong:
            for place, number in ((0, (1, 1)), (9, None), (None, "1"), ([], [])):
                with self.subTest(layer=layer, node=node):
                    found = refused(self, NoNode, with_weight, net, layer, node, place, number)
                    self.same_pair(found, layer, node)
                    self.same_pair(refused(self, NoNode, with_number, net, layer, node, number), layer, node)

    def same_pair(self, found, layer, node):
        """The tuple holds the very things that were handed in."""
        self.assertIsInstance(found, tuple)
        self.assertEqual(len(found), 2)
        self.assertIs(found[0], layer)
        self.assertIs(found[1], node)

    def test_strange_things_for_nodes(self):
        net = Draws(14).net(2, [3, 1, 2])
        for thing in strange_things():
            self.same_pair(refused(self, NoNode, with_weight, net, thing, 0, 0, (1, 1)), thing, 0)
            self.same_pair(refused(self, NoNode, with_weight, net, 0, thing, 0, (1, 1)), 0, thing)
            self.same_pair(refused(self, NoNode, with_number, net, thing, thing, thing), thing, thing)
            self.same_pair(refused(self, NoNode, node_net, net, 0, thing), 0, thing)
            self.same_pair(refused(self, NoNode, node_net, net, thing, 0), thing, 0)

    def test_no_such_wire(self):
        net = Draws(15).net(2, [3, 1, 2])
        for layer, ahead in ((0, 2), (1, 3), (2, 1)):
            for place in NOT_COUNTS + [ahead, ahead + 1] + strange_things():
                for number in ((1, 1), None, "1", (2, 2)):
                    with self.subTest(layer=layer, place=repr(place)[:40]):
                        self.assertIs(refused(self, NoWire, with_weight, net, layer, 0, place, number), place)

    def test_no_number(self):
        net = Draws(16).net(2, [3, 1, 2])
        told = net.told()
        for number in [0, 1, (1,), (2, 2), (1, 0), (1, -1), (0, 2), (True, 1), [1, 2], "1/2", "0"] + strange_things():
            with self.subTest(number=repr(number)[:40]):
                for layer in (0, 1, 2):
                    self.assertIs(refused(self, NoNumber, with_weight, net, layer, 0, 0, number), number)
                    self.assertIs(refused(self, NoNumber, with_number, net, layer, 0, number), number)
        self.assertEqual(net.told(), told)


class NodeNetTest(unittest.TestCase):
    def test_its_out_is_what_the_node_comes_to(self):
        draws = Draws(17)
        for _ in range(40):
            net = draws.some_net()
            spots = [draws.row(net.ins()) for _ in range(3)]
            for layer, nodes in enumerate(net.layers_told()):
                for node, one in enumerate(nodes):
                    alone = node_net(net, layer, node)
                    self.assertEqual(alone.told(), (net.ins(), net.told()[1][:layer] + ((one,),)))
                    self.assertEqual(alone.outs(), 1)
                    for spot in spots:
                        self.assertEqual(alone.outs_at(spot), (net.sums_at(spot)[layer][node],))

    def test_no_such_node(self):
        net = Draws(18).net(1, [2, 3, 1])
        for layer, node in ((3, 0), (-1, 0), (0, 2), (1, 3), (2, 1), (True, 0), (0, False), ("0", 0), (0, None)):
            found = refused(self, NoNode, node_net, net, layer, node)
            self.assertIs(found[0], layer)
            self.assertIs(found[1], node)


class TurnsNothingTest(unittest.TestCase):
    def test_a_node_taken_so_many_times(self):
        draws = Draws(19)
        for round_ in range(25):
            net = draws.net(1 + draws.below(3), [1 + draws.below(4) for _ in range(2 + round_ % 3)])
            spots = [draws.row(net.ins()) for _ in range(6)]
            for layer, node in net.places():
                by = draws.one_of(((2, 1), (1, 3), (5, 7), (1000, 1)))
                other = scaled(net, layer, node, by)
                for spot in spots:
                    self.assertEqual(other.outs_at(spot), net.outs_at(spot))
                    self.assertEqual(other.pattern_at(spot), net.pattern_at(spot))
                    self.assertEqual(
                        as_fraction(other.sums_at(spot)[layer][node]),
                        as_fraction(by) * come_to(net, spot)[layer][node],
                    )

    def test_two_nodes_change_places(self):
        draws = Draws(20)
        for _ in range(25):
            net = draws.net(1 + draws.below(3), [4, 3, 2])
            spots = [draws.row(net.ins()) for _ in range(6)]
            for layer, one, other in ((0, 0, 3), (0, 1, 2), (1, 0, 2), (1, 2, 1)):
                turned = exchanged(net, layer, one, other)
                bits = [net.places().index((layer, node)) for node in (one, other)]
                for spot in spots:
                    self.assertEqual(turned.outs_at(spot), net.outs_at(spot))
                    pattern = net.pattern_at(spot)
                    low, high = [pattern >> bit & 1 for bit in bits]
                    wanted = pattern + (high - low) * 2 ** bits[0] + (low - high) * 2 ** bits[1]
                    self.assertEqual(turned.pattern_at(spot), wanted)


if __name__ == "__main__":
    unittest.main()
