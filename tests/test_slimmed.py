"""Points 5 to 8 and 76: nets slimmed within a box."""

import time
import unittest

from noughtcut.alike import shows_alike, told_alike
from noughtcut.errors import Large, NoBox
from noughtcut.needless import needless_wires, slimmed, without_wire
from noughtcut.nets import Net, net_of, same_net
from tests.test_boxes import not_boxes, spots_of
from tests.test_needless import BOX, CANCEL, MIXED, SQUARE
from tests.things import Draws, refused, row_of, strange_things
from tests.treeing import large_nets, one_net

SECONDS = 20


class SlimmedTest(unittest.TestCase):
    def held_against(self, net, box):
        """What is told of a slimmed net, gone over wire by wire; how many wires went."""
        kept = net.told()
        told = slimmed(net, box)
        self.assertIs(told.__class__, tuple)
        left, gone = told
        self.assertIsInstance(left, Net)
        self.assertIs(gone.__class__, list)
        now = net
        for wire in gone:
            self.assertIs(wire.__class__, tuple)
            self.assertEqual(wire, needless_wires(now, box)[0])
            now = without_wire(now, *wire)
        self.assertEqual(needless_wires(now, box), [])
        self.assertEqual(left.told(), now.told())
        self.assertEqual(len(set(gone)), len(gone))
        answer = told_alike(left, net, box)
        self.assertEqual(answer[0], "alike")
        self.assertIs(shows_alike(left, net, box, answer), True)
        for spot in spots_of(Draws(1), box):
            self.assertEqual(left.outs_at(spot), net.outs_at(spot))
        self.assertEqual(net.told(), kept)
        return len(gone)

    def test_known_ones(self):
        left, gone = slimmed(MIXED, BOX)
        self.assertEqual(gone, [(0, 1, 0), (1, 0, 1)])
        self.assertEqual(left.told(), (1, (
            ((row_of(1), (0, 1)), (row_of(0), (-2, 1)), (row_of(0), (4, 1))),
            ((row_of(1, 0, 0), (0, 1)), (row_of(2, 0, 1), (5, 1))),
        )))
        self.held_against(MIXED, BOX)

    def test_a_wire_that_may_go_only_behind_another_one(self):
        # The wire of the middle layer holds its node down; it may go once nothing takes that node any more.
        held = Net(1, [[(row_of(1), (2, 1))], [(row_of(-1), (1, 2))], [(row_of(5), (0, 1))]])
        self.assertEqual(needless_wires(held, BOX), [(0, 0, 0), (2, 0, 0)])
        left, gone = slimmed(held, BOX)
        self.assertEqual(gone, [(0, 0, 0), (2, 0, 0), (1, 0, 0)])
        self.held_against(held, BOX)

    def test_where_nothing_may_go(self):
        left, gone = slimmed(CANCEL, BOX)
        self.assertEqual(gone, [])
        self.assertIs(same_net(left, CANCEL), True)
        flat = Net(1, [[(row_of(0), (7, 1))]])
        self.assertEqual(slimmed(flat, BOX)[1], [])

    def test_a_slimmed_net_is_slim(self):
        draws = Draws(241)
        for at in range(10):
            net = one_net(draws, 2, at % 5)
            box = draws.box(2)
            left, _ = slimmed(net, box)
            again, gone = slimmed(left, box)
            self.assertEqual(gone, [])
            self.assertIs(same_net(again, left), True)

    def test_drawn_ones(self):
        draws = Draws(242)
        gone = 0
        for at in range(30):
            net = one_net(draws, 1 + draws.below(3), at % 5)
            gone += self.held_against(net, draws.box(net.ins()))
        self.assertGreater(gone, 60)

    def test_flat_boxes(self):
        draws = Draws(243)
        for at in range(6):
            net = one_net(draws, 2, at % 5)
            self.held_against(net, tuple((one, one) for one in draws.row(2)))

    def test_asked_again(self):
        left, gone = slimmed(MIXED, BOX)
        kept = list(gone)
        gone.clear()
        again, told = slimmed(net_of(MIXED.told()), BOX)
        self.assertEqual(told, kept)
        self.assertIs(same_net(again, left), True)

    def test_four_hidden_nodes_over_three_ins(self):
        begun = time.perf_counter()
        for net in large_nets(244, ([4, 4], [3, 1, 2], [2, 2, 4])):
            self.assertEqual(len(slimmed(net, (row_of(-3, 3),) * 3)), 2)
        self.assertLess(time.perf_counter() - begun, SECONDS)


class RefusedTest(unittest.TestCase):
    def test_box_first(self):
        five = Draws(245).net(1, [4, 1, 1])
        for box in not_boxes() + strange_things() + [SQUARE, BOX * 3]:
            for net in (MIXED, five):
                self.assertIs(refused(self, NoBox, slimmed, net, box), box)

    def test_then_too_many_hidden_nodes(self):
        draws = Draws(246)
        for shape, many in (([4, 1, 1], 10), ([3, 2, 4], 10), ([4, 4, 4, 1], 24)):
            self.assertEqual(refused(self, Large, slimmed, draws.net(1, shape), BOX), many)


if __name__ == "__main__":
    unittest.main()
