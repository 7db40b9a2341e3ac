"""Points 5 to 8 and 101 to 103: nets put behind one another, beside one another, and the opposite of a net."""

import time
import unittest

from noughtcut.errors import NoFit
from noughtcut.nets import Net, net_of, same_net
from noughtcut.together import behind, beside, opposite
from tests.things import Draws, as_fraction, as_tuple, come_to, pattern_of, refused, row_of

# How far the in is from 1, and 3 put to it.
FAR = Net(1, [[(row_of(1), (-1, 1)), (row_of(-1), (1, 1))], [(row_of(1, 1), (3, 1))]])
SECONDS = 10


def shape_of(net):
    """How many nodes the layers of a net have."""
    return [len(nodes) for nodes in net.layers_told()]


class BehindTest(unittest.TestCase):
    def held_against(self, draws, one, other):
        """What is told of two nets that fit."""
        kept = (one.told(), other.told())
        told = behind(one, other)
        self.assertIsInstance(told, Net)
        self.assertEqual(told.ins(), one.ins())
        self.assertEqual(shape_of(told), shape_of(one)[:-1] + shape_of(other))
        self.assertEqual(told.layers_told()[:len(shape_of(one)) - 1], one.layers_told()[:-1])
        self.assertEqual(told.layers_told()[len(shape_of(one)):], other.layers_told()[1:])
        for _ in range(5):
            spot = draws.row(one.ins())
            ahead = come_to(one, spot)
            after = come_to(other, tuple(as_tuple(by) for by in ahead[-1]))
            self.assertEqual(come_to(told, spot), ahead[:-1] + after)
            self.assertEqual(told.outs_at(spot), other.outs_at(one.outs_at(spot)))
            pattern = one.pattern_at(spot) + other.pattern_at(one.outs_at(spot)) * 2 ** one.hidden()
            self.assertEqual(told.pattern_at(spot), pattern)
        self.assertEqual((one.told(), other.told()), kept)
        self.assertIs(same_net(behind(net_of(kept[0]), net_of(kept[1])), told), True)

    def test_known_ones(self):
        other = Net(1, [[(row_of(2), (5, 1)), (row_of(-1), (0, 1))]])
        self.assertEqual(behind(FAR, other).told(), (1, (
            ((row_of(1), (-1, 1)), (row_of(-1), (1, 1))), ((row_of(2, 2), (11, 1)), (row_of(-1, -1), (-3, 1))),
        )))
        plain = Net(2, [[(row_of(1, 2), (3, 1)), (row_of(0, -1), (1, 1))]])
        last = Net(2, [[(row_of(1, 10), (0, 1))]])
        self.assertEqual(behind(plain, last).told(), (2, (((row_of(1, -8), (13, 1)),),)))

    def test_all_layers(self):
        draws = Draws(301)
        for first in range(1, 5):
            for second in range(1, 6 - first):
                for outs in (1, 2, 3):
                    one = draws.net(1 + draws.below(3), [1 + draws.below(4) for _ in range(first - 1)] + [outs])
                    other = draws.net(outs, [1 + draws.below(4) for _ in range(second)])
                    self.held_against(draws, one, other)

    def test_behind_itself(self):
        self.held_against(Draws(302), FAR, FAR)
        self.assertEqual(behind(FAR, FAR).outs_at(row_of(1)), row_of(5))

    def test_that_do_not_fit(self):
        draws = Draws(303)
        for outs in range(1, 5):
            for ins in range(1, 4):
                one, other = draws.net(2, [3, outs]), draws.net(ins, [1, 2])
                if outs == ins:
                    self.held_against(draws, one, other)
                else:
                    self.assertIs(refused(self, NoFit, behind, one, other), other)
        for first in range(1, 5):
            for second in range(1, 5):
                one, other = draws.net(1, [2] * first), draws.net(2, [2] * second)
                if first + second <= 5:
                    self.held_against(draws, one, other)
                else:
                    self.assertIs(refused(self, NoFit, behind, one, other), other)


class BesideTest(unittest.TestCase):
    def held_against(self, draws, one, other):
        """What is told of two nets that fit."""
        kept = (one.told(), other.told())
        told = beside(one, other)
        self.assertIsInstance(told, Net)
        self.assertEqual(told.ins(), one.ins())
        self.assertEqual(shape_of(told), [mine + its for mine, its in zip(shape_of(one), shape_of(other))])
        for at, (nodes, mine, its) in enumerate(zip(told.layers_told(), one.layers_told(), other.layers_told())):
            ahead = (0, 0) if at == 0 else (len(other.layers_told()[at - 1]), len(one.layers_told()[at - 1]))
            wanted = [(row + row_of(0) * ahead[0], number) for row, number in mine]
            self.assertEqual(nodes, wanted + [(row_of(0) * ahead[1] + row, number) for row, number in its])
        for _ in range(5):
            spot = draws.row(one.ins())
            both = [mine + its for mine, its in zip(come_to(one, spot), come_to(other, spot))]
            self.assertEqual(come_to(told, spot), both)
            self.assertEqual(told.outs_at(spot), one.outs_at(spot) + other.outs_at(spot))
            bits = [int(by > 0) for sums in both[:-1] for by in sums]
            self.assertEqual(told.pattern_at(spot), sum(bit * 2 ** at for at, bit in enumerate(bits)))
        self.assertEqual((one.told(), other.told()), kept)
        self.assertIs(same_net(beside(net_of(kept[0]), net_of(kept[1])), told), True)

    def test_known_ones(self):
        other = Net(1, [[(row_of(7), (0, 1))], [(row_of(5), (4, 1)), (row_of(6), (0, 1))]])
        self.assertEqual(beside(FAR, other).told(), (1, (
            ((row_of(1), (-1, 1)), (row_of(-1), (1, 1)), (row_of(7), (0, 1))),
            ((row_of(1, 1, 0), (3, 1)), (row_of(0, 0, 5), (4, 1)), (row_of(0, 0, 6), (0, 1))),
        )))
        self.held_against(Draws(304), FAR, other)
        self.held_against(Draws(304), other, FAR)
        self.held_against(Draws(304), FAR, FAR)

    def test_all_layers(self):
        draws = Draws(305)
        for layers in range(1, 5):
            for _ in range(12):
                first = [1 + draws.below(3) for _ in range(layers)]
                second = [1 + draws.below(4 - many) for many in first]
                ins = 1 + draws.below(3)
                self.held_against(draws, draws.net(ins, first), draws.net(ins, second))

    def test_the_pattern_is_that_of_both_layer_by_layer(self):
        draws = Draws(306)
        one, other = draws.net(2, [2, 1, 1]), draws.net(2, [1, 2, 1])
        for _ in range(10):
            spot = draws.row(2)
            mine, its = pattern_of(one, spot), pattern_of(other, spot)
            bits = [mine & 1, mine >> 1 & 1, its & 1, mine >> 2 & 1, its >> 1 & 1, its >> 2 & 1]
            self.assertEqual(beside(one, other).pattern_at(spot), sum(bit * 2 ** at for at, bit in enumerate(bits)))

    def test_that_do_not_fit(self):
        draws = Draws(307)
        one = draws.net(2, [2, 2])
        for ins, shape in ((1, [2, 2]), (3, [2, 2]), (2, [2]), (2, [2, 2, 2]), (2, [3, 1]), (2, [1, 3]), (2, [4, 1]), (1, [3])):
            other = draws.net(ins, shape)
            self.assertIs(refused(self, NoFit, beside, one, other), other)
            self.assertIs(refused(self, NoFit, beside, other, one), one)
        for shape, more in (([1, 4, 1], [1, 1, 1]), ([1, 1, 4], [1, 1, 1]), ([3, 3], [2, 1]), ([4], [1])):
            other = draws.net(1, more)
            self.assertIs(refused(self, NoFit, beside, draws.net(1, shape), other), other)


class OppositeTest(unittest.TestCase):
    def test_each_out_is_nought_less_the_nets(self):
        draws = Draws(308)
        for _ in range(25):
            net = draws.some_net()
            kept = net.told()
            told = opposite(net)
            self.assertIsInstance(told, Net)
            self.assertEqual(told.layers_told()[:-1], net.layers_told()[:-1])
            self.assertEqual(told.ins(), net.ins())
            for (row, number), (mine, beside_it) in zip(told.layers_told()[-1], net.layers_told()[-1]):
                self.assertEqual(row, tuple(as_tuple(-as_fraction(one)) for one in mine))
                self.assertEqual(number, as_tuple(-as_fraction(beside_it)))
            spot = draws.row(net.ins())
            self.assertEqual(come_to(told, spot)[:-1], come_to(net, spot)[:-1])
            self.assertEqual(come_to(told, spot)[-1], [-one for one in come_to(net, spot)[-1]])
            self.assertEqual(told.pattern_at(spot), net.pattern_at(spot))
            self.assertIs(same_net(opposite(told), net), True)
            self.assertEqual(net.told(), kept)

    def test_known_one(self):
        self.assertEqual(opposite(FAR).told(), (1, (FAR.told()[1][0], ((row_of(-1, -1), (-3, 1)),))))


class TimeTest(unittest.TestCase):
    def test_numbers_of_four_hundred_figures(self):
        begun = time.perf_counter()
        draws = Draws(309)
        net = Net(3, [[(tuple(draws.long_number(400) for _ in range(ahead)), draws.long_number(400)) for _ in range(3)]
                      for ahead in (3, 3)])
        spot = tuple(draws.long_number(400) for _ in range(3))
        self.assertEqual(behind(net, net).outs_at(spot), net.outs_at(net.outs_at(spot)))
        self.assertEqual(opposite(opposite(net)).told(), net.told())
        self.assertEqual(beside(node(net), node(net)).outs_at(spot), node(net).outs_at(spot) * 2)
        self.assertLess(time.perf_counter() - begun, SECONDS)


def node(net):
    """The net of the last node of a net's first layer."""
    return Net(net.ins(), [net.layers_told()[0][-1:]])


if __name__ == "__main__":
    unittest.main()
