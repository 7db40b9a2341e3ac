"""Points 4, 6 and 23 to 25: nets, what they tell of themselves, and what they come to at a spot."""

import itertools
import unittest

from noughtcut.errors import NoNet, NoSpot
from noughtcut.nets import Net, net_of, same_net
from noughtcut.numbers import is_row
from tests.things import Draws, as_tuple, come_to, pattern_of, refused, row_of, strange_things

ONE_NODE = (row_of(1), (0, 1))
# One in, two hidden nodes, one out: the out is how far the in is from 1, and 3 put to it.
FAR = (1, ((((row_of(1), (-1, 1)), (row_of(-1), (1, 1)))), ((row_of(1, 1), (3, 1)),)))


def wrong_layers():
    """Things that are no layers of a net of one in."""
    two = [ONE_NODE, ONE_NODE]
    over_two = (row_of(1, 2), (0, 1))
    return [
        [], (), [[]], [()], ((),), [two, []], [[], [ONE_NODE]],
        [[ONE_NODE]] * 5, ([ONE_NODE],) * 5,
        [[ONE_NODE] * 5], [two, [over_two] * 5],
        [[over_two]], [[((), (0, 1))]], [[ONE_NODE, over_two]], [two, [ONE_NODE]], [two, [(row_of(1, 1, 1), (0, 1))]],
        [two, [over_two], [over_two]],
        [[list(ONE_NODE)]], [[[row_of(1), (0, 1)]]], [[([(1, 1)], (0, 1))]], [[((1, 1), (0, 1))]],
        [[(row_of(1), [0, 1])]], [[(((1, 1),), (0, 2))]], [[(((2, 2),), (0, 1))]], [[(((True, 1),), (0, 1))]],
        [[(((1, 0),), (0, 1))]], [[(((1, -1),), (0, 1))]], [[((None,), (0, 1))]], [[(row_of(1), None)]],
        [[(row_of(1), 0)]], [[(row_of(1), "0")]], [[(row_of(1), (0, 1), (0, 1))]], [[(row_of(1),)]],
        ONE_NODE, [ONE_NODE], [[{}]], [{0: ONE_NODE}], {0: [ONE_NODE]}, [[ONE_NODE], None], "layer", ["node"], [["node"]],
        [[[ONE_NODE]]], Net(1, [[ONE_NODE]]), [Net(1, [[ONE_NODE]])],
    ] + strange_things()


class MadeTest(unittest.TestCase):
    def test_all_sizes_of_lists_and_tuples(self):
        draws = Draws(1)
        kinds = itertools.cycle([list, tuple, tuple, list, tuple])
        for ins in (1, 2, 3):
            for many in (1, 2, 3, 4):
                for last in (1, 2, 3, 4):
                    sizes = [1 + draws.below(4) for _ in range(many - 1)] + [last]
                    layers = draws.layers(ins, sizes)
                    net = Net(ins, next(kinds)([next(kinds)(nodes) for nodes in layers]))
                    self.assertEqual(net.ins(), ins)
                    self.assertEqual(net.outs(), last)
                    self.assertEqual(net.hidden(), sum(sizes) - last)
                    self.assertEqual(net.layers_told(), layers)
                    self.assertEqual(net.told(), (ins, tuple(tuple(nodes) for nodes in layers)))

    def test_no_such_ins(self):
        for ins in [0, 4, -1, 5, 10 ** 399, True, False, (1, 1), (0, 1), "1", 'x', [1], (1,)] + strange_things():
            for layers in ([[ONE_NODE]], [], None, [[None]]):
                with self.subTest(ins=repr(ins)[:40]):
                    self.assertIs(refused(self, NoNet, Net, ins, layers), ins)

    def test_no_such_layers(self):
        for layers in wrong_layers():
            with self.subTest(layers=repr(layers)[:80]):
                self.assertIs(refused(self, NoNet, Net, 1, layers), layers)

    def test_layers_for_another_number_of_ins(self):
        layers = [[(row_of(1, 2), (0, 1))]]
        self.assertEqual(Net(2, layers).ins(), 2)
        for ins in (1, 3):
            self.assertIs(refused(self, NoNet, Net, ins, layers), layers)

    def test_a_list_that_is_changed_afterwards(self):
        nodes = [ONE_NODE, ONE_NODE]
        layers = [nodes, [(row_of(1, 1), (0, 1))]]
        net = Net(1, layers)
        told = net.told()
        nodes.append(ONE_NODE)
        nodes[0] = None
        layers.append([ONE_NODE])
        self.assertEqual(net.told(), told)
        self.assertEqual(net.outs_at(row_of(2)), row_of(4))
        self.assertEqual((net.hidden(), net.outs()), (2, 1))

    def test_what_is_handed_in_is_not_changed(self):
        layers = [[ONE_NODE, ONE_NODE], [(row_of(1, 1), (0, 1))]]
        Net(1, layers)
        self.assertEqual(layers, [[ONE_NODE, ONE_NODE], [(row_of(1, 1), (0, 1))]])


class ToldTest(unittest.TestCase):
    def test_a_known_one(self):
        net = net_of(FAR)
        self.assertEqual(net.told(), FAR)
        self.assertEqual((net.ins(), net.outs(), net.hidden()), (1, 1, 2))
        self.assertEqual(net.layers_told(), [list(nodes) for nodes in FAR[1]])
        self.assertEqual(net.places(), [(0, 0), (0, 1)])

    def test_places(self):
        net = Draws(2).net(2, [3, 1, 2, 4])
        self.assertEqual(net.places(), [(0, 0), (0, 1), (0, 2), (1, 0), (2, 0), (2, 1)])
        self.assertEqual(Net(1, [[ONE_NODE] * 4]).places(), [])
        self.assertEqual(Net(1, [[ONE_NODE] * 4]).hidden(), 0)

    def test_lists_told_are_the_askers_own(self):
        net = net_of(FAR)
        told = net.layers_told()
        for nodes in told:
            nodes.clear()
        told.append(None)
        net.places().append((9, 9))
        net.sums_at(row_of(1)).clear()
        self.assertEqual(net.layers_told(), [list(nodes) for nodes in FAR[1]])
        self.assertEqual(net.places(), [(0, 0), (0, 1)])
        self.assertEqual(net.told(), FAR)
        self.assertEqual(net.outs_at(row_of(5)), row_of(7))

    def test_the_net_of_what_was_told(self):
        draws = Draws(3)
        for _ in range(60):
            net = draws.some_net()
            again = net_of(net.told())
            self.assertIsInstance(again, Net)
            self.assertEqual(again.told(), net.told())
            self.assertIs(same_net(net, again), True)

    def test_what_no_net_tells(self):
        ins, (first, last) = FAR
        things = [
            [ins, (first, last)], (ins, [first, last]), (ins, (list(first), last)), (ins, (first, list(last))),
            (ins, ([first[0], first[1]], last)), (ins, ((list(first[0]), first[1]), last)),
            (ins, ((([(1, 1)], (0, 1)), first[1]), last)),
            (ins, (first, last), 0), (ins,), (), (ins, (first, last), None), (ins, first, last), FAR[1], first, last,
            (True, (first, last)), (0, (first, last)), (4, (first, last)), ("1", (first, last)), (2, (first, last)),
            ((1, 1), (first, last)), (ins, ()), (ins, (first, ())), (ins, (last,)), (ins, (last, first)),
            (ins, (first, last, last)), (ins, (first, last, (ONE_NODE,), (ONE_NODE,), (ONE_NODE,))), (ins, None),
            ((first, last), ins), {ins: (first, last)}, net_of(FAR), (ins, net_of(FAR)),
        ] + [(1, layers) for layers in wrong_layers()] + strange_things()
        for thing in things:
            with self.subTest(thing=repr(thing)[:80]):
                self.assertIs(refused(self, NoNet, net_of, thing), thing)

    def test_same_nets(self):
        draws = Draws(4)
        nets = [draws.net(2, [2, 2]) for _ in range(6)] + [draws.net(2, [2, 2, 2]), draws.net(1, [2, 2]), net_of(FAR)]
        for one, other in itertools.product(nets, nets):
            self.assertIs(same_net(one, other), one is other)
            self.assertIs(same_net(one, net_of(other.told())), one is other)

    def test_nets_that_differ_in_one_thing(self):
        ins, (first, last) = FAR
        others = [
            (ins, (first, ((row_of(1, 1), (2, 1)),))), (ins, (first, ((row_of(1, 2), (3, 1)),))),
            (ins, (((row_of(2), (-1, 1)), first[1]), last)), (ins, ((first[0], (row_of(-1), (0, 1))), last)),
            (ins, ((first[1], first[0]), last)), (ins, (first, last + last)), (ins, (first, last, (ONE_NODE,))),
            (ins, (first + (ONE_NODE,), ((row_of(1, 1, 0), (3, 1)),))),
        ]
        for other in others:
            self.assertIs(same_net(net_of(FAR), net_of(other)), False)
            self.assertIs(same_net(net_of(other), net_of(FAR)), False)
            self.assertIs(same_net(net_of(other), net_of(other)), True)


class AtTest(unittest.TestCase):
    def test_a_known_one(self):
        net = net_of(FAR)
        pairs = [(0, 4, 2), (1, 3, 0), (2, 4, 1), ("1/2", "7/2", 2), (-9, 13, 2), ("100", 102, 1), ("3/2", "7/2", 1)]
        for at, out, pattern in pairs:
            self.assertEqual(net.outs_at(row_of(at)), row_of(out))
            self.assertEqual(net.pattern_at(row_of(at)), pattern)
        self.assertEqual(net.sums_at(row_of(3)), [row_of(2, -2), row_of(5)])

    def test_nodes_are_told_ahead_of_cutting(self):
        net = Net(1, [[(row_of(1), (-5, 1))], [(row_of(1), (-1, 1))], [(row_of(2), (-7, 1))]])
        self.assertEqual(net.sums_at(row_of(2)), [row_of(-3), row_of(-1), row_of(-7)])
        self.assertEqual(net.outs_at(row_of(2)), row_of(-7))
        self.assertEqual(net.pattern_at(row_of(2)), 0)
        self.assertEqual(net.sums_at(row_of(7)), [row_of(2), row_of(1), row_of(-5)])
        self.assertEqual(net.pattern_at(row_of(7)), 3)

    def test_just_nought_is_cut(self):
        net = Net(1, [[ONE_NODE, (row_of(0), (0, 1)), (row_of(-1), (0, 1))], [(row_of(1, 1, 1), (0, 1))]])
        self.assertEqual(net.pattern_at(row_of(0)), 0)
        self.assertEqual(net.pattern_at(row_of("1/1000")), 1)
        self.assertEqual(net.pattern_at(row_of("-1/1000")), 4)

    def test_bits_are_counted_over_the_layers(self):
        flat = [(row_of(0, 0), (one, 1)) for one in (1, -1)]
        wide = [(row_of(0), (one, 1)) for one in (-1, 1)]
        net = Net(1, [wide, flat, flat, [(row_of(1, 1), (0, 1))]])
        self.assertEqual(net.pattern_at(row_of(0)), 0b010110)
        self.assertEqual(Net(1, [wide]).pattern_at(row_of(0)), 0)
        self.assertEqual(Net(1, [wide, [(row_of(1, 1), (0, 1))]]).pattern_at(row_of(0)), 2)

    def test_drawn_ones(self):
        draws = Draws(5)
        for _ in range(150):
            net = draws.some_net()
            spot = draws.row(net.ins())
            wanted = [tuple(as_tuple(one) for one in sums) for sums in come_to(net, spot)]
            told = net.sums_at(spot)
            self.assertIsInstance(told, list)
            self.assertEqual(told, wanted)
            self.assertEqual(net.outs_at(spot), wanted[-1])
            self.assertIs(is_row(net.outs_at(spot), net.outs()), True)
            self.assertEqual(net.pattern_at(spot), pattern_of(net, spot))
            again = net_of(net.told())
            self.assertEqual(again.sums_at(spot), told)
            self.assertEqual(again.pattern_at(spot), net.pattern_at(spot))

    def test_no_spot(self):
        draws = Draws(6)
        for ins in (1, 2, 3):
            net = draws.net(ins, [2, 2])
            right = row_of(*range(ins))
            things = [list(right), right + row_of(1), right[1:], right[0], (right,), tuple([*right[1:], (2, 2)])]
            things += [tuple([*right[1:], [0, 1]]), tuple([*right[1:], 0]), tuple([*right[1:], (True, 1)]), net]
            for thing in things + strange_things():
                for ask in (net.outs_at, net.sums_at, net.pattern_at):
                    with self.subTest(ins=ins, thing=repr(thing)[:60]):
                        self.assertIs(refused(self, NoSpot, ask, thing), thing)


if __name__ == "__main__":
    unittest.main()
