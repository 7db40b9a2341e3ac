"""Points 5 to 8, 74 and 75: nets without a wire, nets with a hushed node, and which of both may go."""

import time
import unittest

from noughtcut.alike import told_alike
from noughtcut.errors import Large, NoBox, NoNode, NoWire
from noughtcut.needless import hushed, needless_nodes, needless_wires, without_wire
from noughtcut.nets import Net, net_of, with_number
from tests.netting import are_alike
from tests.test_boxes import not_boxes
from tests.test_net_changes import NOT_COUNTS
from tests.things import Draws, refused, row_of, strange_things
from tests.treeing import large_nets, one_net

BOX = (row_of(-1, 2),)
SQUARE = (row_of(0, 1), row_of(0, 1))
# Three nodes: the in, cut; one that is cut in the box; one that is kept. Behind them two outs.
MIXED = Net(1, [[(row_of(1), (0, 1)), (row_of(1), (-2, 1)), (row_of(0), (4, 1))],
                [(row_of(1, 3, 0), (0, 1)), (row_of(2, 0, 1), (5, 1))]])
# Two nodes that are the same, the one taken as many times as the other the other way.
CANCEL = Net(1, [[(row_of(1), (0, 1)), (row_of(1), (0, 1))], [(row_of(2, -2), (1, 1))]])
SECONDS = 20


def wires_of(net):
    """All wires of a net, in order, with their weights."""
    for layer, nodes in enumerate(net.layers_told()):
        for node, (row, _) in enumerate(nodes):
            for place, weight in enumerate(row):
                yield (layer, node, place), weight


def cut_wire(net, layer, node, place):
    """What a net tells without a wire."""
    ins, layers = net.told()
    return (ins, tuple(
        tuple(
            (tuple((0, 1) if (at, one, its) == (layer, node, place) else weight for its, weight in enumerate(row)), number)
            for one, (row, number) in enumerate(nodes)
        )
        for at, nodes in enumerate(layers)
    ))


class WithoutTest(unittest.TestCase):
    def test_just_this_weight_is_nought(self):
        draws = Draws(221)
        for _ in range(12):
            net = draws.some_net()
            kept = net.told()
            for wire, _ in wires_of(net):
                other = without_wire(net, *wire)
                self.assertIsInstance(other, Net)
                self.assertEqual(other.told(), cut_wire(net, *wire))
                self.assertEqual(without_wire(other, *wire).told(), other.told())
            self.assertEqual(net.told(), kept)

    def test_no_such_node_ahead_of_no_such_wire(self):
        net = Draws(222).net(2, [3, 1, 2])
        wrong = [(at, 0) for at in NOT_COUNTS + [3, 4]] + [(layer, at) for layer in (0, 1, 2) for at in NOT_COUNTS]
        wrong += [(0, 3), (1, 1), (2, 2), (None, None)] + [(thing, 0) for thing in strange_things()]
        wrong += [(1, thing) for thing in strange_things()]
        for layer, node in wrong:
            for place in (0, 9, None):
                found = refused(self, NoNode, without_wire, net, layer, node, place)
                self.assertIs(found.__class__, tuple)
                self.assertEqual(len(found), 2)
                self.assertIs(found[0], layer)
                self.assertIs(found[1], node)

    def test_no_such_wire(self):
        net = Draws(223).net(2, [3, 1, 2])
        for layer, ahead in ((0, 2), (1, 3), (2, 1)):
            for place in NOT_COUNTS + [ahead, ahead + 1] + strange_things():
                self.assertIs(refused(self, NoWire, without_wire, net, layer, 0, place), place)


class HushedTest(unittest.TestCase):
    def test_no_node_behind_takes_it(self):
        draws = Draws(224)
        for _ in range(15):
            net = draws.some_net()
            kept = net.told()
            for layer, node in net.places():
                other = hushed(net, layer, node)
                self.assertIsInstance(other, Net)
                wanted = kept
                for behind in range(len(kept[1][layer + 1])):
                    wanted = cut_wire(net_of(wanted), layer + 1, behind, node)
                self.assertEqual(other.told(), wanted)
            self.assertEqual(net.told(), kept)

    def test_known_one(self):
        other = hushed(MIXED, 0, 0)
        self.assertEqual(other.told()[1][0], MIXED.told()[1][0])
        self.assertEqual(other.told()[1][1], ((row_of(0, 3, 0), (0, 1)), (row_of(0, 0, 1), (5, 1))))

    def test_no_such_hidden_node(self):
        net = Draws(225).net(2, [3, 1, 2])
        wrong = [(at, 0) for at in NOT_COUNTS + [2, 3, 4]] + [(layer, at) for layer in (0, 1, 2) for at in NOT_COUNTS]
        wrong += [(0, 3), (1, 1), (2, 0), (2, 1), (2, 2), (None, None)] + [(thing, 0) for thing in strange_things()]
        wrong += [(0, thing) for thing in strange_things()] + [(2, thing) for thing in strange_things()]
        for layer, node in wrong:
            found = refused(self, NoNode, hushed, net, layer, node)
            self.assertIs(found.__class__, tuple)
            self.assertEqual(len(found), 2)
            self.assertIs(found[0], layer)
            self.assertIs(found[1], node)
        for node in (0, 1):
            self.assertEqual(refused(self, NoNode, hushed, Net(1, [[(row_of(1), (0, 1))] * 2]), 0, node), (0, node))


class NeedlessTest(unittest.TestCase):
    def held_against(self, net, box):
        """All needless wires and nodes, looked at one by one."""
        wires = [wire for wire, weight in wires_of(net) if weight != (0, 1)]
        taken = [place for place in net.places() if hushed(net, *place).told() != net.told()]
        for ask, change, there in ((needless_wires, without_wire, wires), (needless_nodes, hushed, taken)):
            told = ask(net, box)
            self.assertIs(told.__class__, list)
            for one in told:
                self.assertIs(one.__class__, tuple)
                self.assertTrue(all(part.__class__ is int for part in one))
            self.assertEqual(told, [one for one in there if told_alike(change(net, *one), net, box)[0] == "alike"])

    def test_known_ones(self):
        # The node that is cut in the box may go with all its wires; what is kept and taken may not.
        self.assertEqual(needless_wires(MIXED, BOX), [(0, 1, 0), (1, 0, 1)])
        self.assertEqual(needless_nodes(MIXED, BOX), [(0, 1)])
        wide = (row_of(-1, "201/100"),)
        self.assertEqual(needless_wires(MIXED, wide), [])
        self.assertEqual(needless_nodes(MIXED, wide), [])
        low = (row_of(-2, -1),)
        self.assertEqual(needless_wires(MIXED, low), [(0, 0, 0), (0, 1, 0), (1, 0, 0), (1, 0, 1), (1, 1, 0)])
        self.assertEqual(needless_nodes(MIXED, low), [(0, 0), (0, 1)])

    def test_outs_that_cancel_one_another(self):
        # By itself no wire of the two nodes may go, for the other node would stand alone.
        self.assertEqual(needless_wires(CANCEL, BOX), [])
        self.assertEqual(needless_nodes(CANCEL, BOX), [])
        # Two nodes behind that cancel one another, whatever the one ahead of them comes to.
        twice = Net(1, [[(row_of(1), (0, 1))], [(row_of(2), (0, 1)), (row_of(2), (0, 1))], [(row_of(1, -1), (0, 1))]])
        self.assertEqual(needless_wires(twice, BOX), [(0, 0, 0)])
        self.assertEqual(needless_nodes(twice, BOX), [(0, 0)])

    def test_each_by_itself_but_not_both(self):
        # The node behind is cut as long as one of the two ahead of it is there.
        both = Net(1, [[(row_of(1), (3, 1)), (row_of(1), (2, 1))], [(row_of(-1, -1), (1, 1))], [(row_of(1), (0, 1))]])
        self.assertEqual(needless_nodes(both, BOX), [(0, 0), (0, 1), (1, 0)])
        self.assertEqual(told_alike(hushed(hushed(both, 0, 0), 0, 1), both, BOX)[0], "unlike")
        self.assertEqual(needless_nodes(hushed(both, 0, 0), BOX), [(1, 0)])

    def test_what_counts_only_between_the_corners(self):
        # Up and down again within the box from -1 to 1: nought at both ends, but not between.
        net = Net(1, [[(row_of(1), (1, 1)), (row_of(1), (0, 1))], [(row_of(1, -2), (0, 1))], [(row_of(3), (0, 1))]])
        self.assertEqual(needless_wires(net, (row_of(-1, 1),)), [])
        self.assertEqual(needless_nodes(net, (row_of(-1, 1),)), [])
        low = with_number(net, 1, 0, (-1, 2))
        self.assertEqual(needless_wires(low, (row_of(-1, 1),)), [])
        never = with_number(net, 1, 0, (-1, 1))
        self.assertEqual(needless_nodes(never, (row_of(-1, 1),)), [(0, 0), (1, 0)])
        self.assertEqual(needless_wires(never, (row_of(-1, 1),)), [(0, 0, 0), (1, 0, 0), (2, 0, 0)])

    def test_wires_of_nought_are_never_told(self):
        net = Net(2, [[(row_of(0, 0), (-1, 1)), (row_of(1, 0), (0, 1))], [(row_of(0, 0), (1, 1)), (row_of(0, 1), (0, 1))]])
        self.assertEqual(needless_wires(net, SQUARE), [])
        self.assertEqual(needless_nodes(net, SQUARE), [])
        self.assertEqual(needless_wires(Net(1, [[(row_of(0), (0, 1))]]), BOX), [])

    def test_nothing_may_go(self):
        net = Net(2, [[(row_of(1, -1), (0, 1)), (row_of(-1, 1), (0, 1))], [(row_of(1, 1), (0, 1))]])
        self.assertEqual(needless_wires(net, SQUARE), [])
        self.assertEqual(needless_nodes(net, SQUARE), [])

    def test_in_a_flat_box(self):
        net = Net(2, [[(row_of(3, 2), (0, 1))]])
        self.assertEqual(needless_wires(net, (row_of(0, 0), row_of(0, 1))), [(0, 0, 0)])
        self.assertEqual(needless_wires(net, (row_of(0, 0),) * 2), [(0, 0, 0), (0, 0, 1)])
        self.assertEqual(needless_wires(net, (row_of(1, 1),) * 2), [])

    def test_without_hidden_nodes(self):
        net = Net(1, [[(row_of(1), (0, 1)), (row_of(0), (1, 1))]])
        self.assertEqual(needless_wires(net, BOX), [])
        self.assertEqual(needless_nodes(net, BOX), [])

    def test_drawn_ones(self):
        draws = Draws(226)
        seen = 0
        for at in range(40):
            net = one_net(draws, 1 + draws.below(3), at % 5)
            box = draws.box(net.ins())
            self.held_against(net, box)
            seen += len(needless_wires(net, box))
        self.assertGreater(seen, 60)

    def test_against_all_crossings(self):
        draws = Draws(227)
        for at in range(12):
            net = one_net(draws, 1 + at % 2, 1 + at % 2)
            box = draws.box(net.ins())
            wanted = [wire for wire, weight in wires_of(net) if weight[0] and are_alike(without_wire(net, *wire), net, box)]
            self.assertEqual(needless_wires(net, box), wanted)

    def test_lists_told_are_the_askers_own(self):
        for ask in (needless_wires, needless_nodes):
            told = ask(MIXED, BOX)
            kept = list(told)
            told.append((9, 9))
            told[0] = None
            self.assertEqual(ask(MIXED, BOX), kept)
            self.assertEqual(ask(net_of(MIXED.told()), BOX), kept)


class TimeTest(unittest.TestCase):
    def test_four_hidden_nodes_over_three_ins(self):
        begun = time.perf_counter()
        box = (row_of(-3, 3),) * 3
        for net in large_nets(228, ([4, 4], [3, 1, 2], [2, 2, 4])):
            needless_wires(net, box)
            needless_nodes(net, box)
        self.assertLess(time.perf_counter() - begun, SECONDS)


class RefusedTest(unittest.TestCase):
    def test_box_first(self):
        five = Draws(229).net(1, [4, 1, 1])
        for box in not_boxes() + strange_things() + [SQUARE, BOX * 3]:
            for net in (MIXED, five):
                for ask in (needless_wires, needless_nodes):
                    self.assertIs(refused(self, NoBox, ask, net, box), box)

    def test_then_too_many_hidden_nodes(self):
        draws = Draws(230)
        for shape, many in (([4, 1, 1], 10), ([3, 2, 4], 10), ([4, 4, 1], 16), ([4, 4, 4, 1], 24)):
            for ask in (needless_wires, needless_nodes):
                self.assertEqual(refused(self, Large, ask, draws.net(1, shape), BOX), many)
        nothing = Net(1, [[(row_of(0), (0, 1))] * 4, [(row_of(0, 0, 0, 0), (0, 1))], [(row_of(0), (0, 1))]])
        for ask in (needless_wires, needless_nodes):
            self.assertEqual(refused(self, Large, ask, nothing, BOX), 10)
            self.assertEqual(ask(Net(1, nothing.layers_told()[:2]), BOX), [])


if __name__ == "__main__":
    unittest.main()
