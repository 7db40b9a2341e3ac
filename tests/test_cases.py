"""Points 6, 61 and 62: sums by a pattern, and the wishes of a case."""

import unittest

from noughtcut.boxes import box_wishes
from noughtcut.cases import sums_by, wishes_by
from noughtcut.errors import NoBox, NoFit, NoNumber, NoPattern
from noughtcut.nets import Net
from tests.test_boxes import not_boxes, spots_of
from tests.things import Draws, as_fraction, as_tuple, pattern_of, refused, row_of, strange_things
from tests.treeing import nets_of, sums_of, wishes_of
from tests.wishing import keeps_all, whole_wish

# One in, two hidden nodes in one layer, one in the next, one out.
NET = Net(1, [
    [(row_of(1), (-1, 1)), (row_of(-2), (3, 1))],
    [(row_of(1, 1), (-1, 2))],
    [(row_of(4), (5, 1))],
])
BOX = (row_of(-3, 3),)
NOT_PATTERNS = [True, False, -1, -2, None, "0", "", [], [0], (), (0, 1), {}, 10 ** 399, -(10 ** 399)]


class SumsTest(unittest.TestCase):
    def test_a_known_one(self):
        first = [(row_of(1), (-1, 1)), (row_of(-2), (3, 1))]
        self.assertEqual(sums_by(NET, 0), [first, [(row_of(0), (-1, 2))], [(row_of(0), (5, 1))]])
        self.assertEqual(sums_by(NET, 1), [first, [(row_of(1), (-3, 2))], [(row_of(0), (5, 1))]])
        self.assertEqual(sums_by(NET, 2), [first, [(row_of(-2), (5, 2))], [(row_of(0), (5, 1))]])
        self.assertEqual(sums_by(NET, 7), [first, [(row_of(-1), (3, 2))], [(row_of(-4), (11, 1))]])
        self.assertEqual(sums_by(NET, 5), [first, [(row_of(1), (-3, 2))], [(row_of(4), (-1, 1))]])

    def test_all_patterns_of_drawn_nets(self):
        draws = Draws(111)
        for _ in range(40):
            net = draws.some_net()
            hidden = net.hidden()
            for pattern in {0, 2 ** hidden - 1, *(draws.below(2 ** hidden) for _ in range(8))}:
                wanted = [[(tuple(as_tuple(by) for by in one[:-1]), as_tuple(one[-1])) for one in layer]
                          for layer in sums_of(net, pattern)]
                self.assertEqual(sums_by(net, pattern), wanted)

    def test_at_a_spot_of_this_pattern(self):
        draws = Draws(112)
        for _ in range(60):
            net = draws.some_net()
            for _ in range(6):
                spot = draws.row(net.ins())
                by = sums_by(net, net.pattern_at(spot))
                come = [tuple(as_tuple(sum((as_fraction(w) * as_fraction(x) for w, x in zip(row, spot)), as_fraction(number)))
                              for row, number in layer) for layer in by]
                self.assertEqual(come, net.sums_at(spot))

    def test_a_net_without_hidden_nodes(self):
        net = Net(2, [[(row_of(1, 2), (3, 1))] * 2])
        self.assertEqual(sums_by(net, 0), [[(row_of(1, 2), (3, 1))] * 2])
        for pattern in (1, 2, -1, False, True):
            self.assertIs(refused(self, NoPattern, sums_by, net, pattern), pattern)

    def test_no_pattern(self):
        draws = Draws(113)
        for net in (NET, draws.net(3, [4, 4, 4, 1]), draws.net(2, [1, 1])):
            edge = 2 ** net.hidden()
            self.assertEqual(len(sums_by(net, edge - 1)), len(net.layers_told()))
            for thing in [edge, edge + 1, 2 * edge] + NOT_PATTERNS + strange_things():
                with self.subTest(thing=repr(thing)[:60]):
                    self.assertIs(refused(self, NoPattern, sums_by, net, thing), thing)

    def test_lists_told_are_the_askers_own(self):
        told = sums_by(NET, 5)
        kept = [list(layer) for layer in told]
        told[0].clear()
        told.pop()
        self.assertEqual(sums_by(NET, 5), kept)


class WishesTest(unittest.TestCase):
    def test_a_known_one(self):
        wishes = box_wishes(BOX)
        self.assertEqual(wishes_by([NET], BOX, 5, 0), wishes)
        self.assertEqual(wishes_by([NET], BOX, 5, 1), wishes + [(row_of(-1), (-1, 1))])
        self.assertEqual(wishes_by([NET], BOX, 5, 2), wishes + [(row_of(-1), (-1, 1)), (row_of(-2), (-3, 1))])
        self.assertEqual(wishes_by((NET,), BOX, 5, 3), wishes + [
            (row_of(-1), (-1, 1)), (row_of(-2), (-3, 1)), (row_of(-1), (-3, 2)),
        ])
        self.assertEqual(wishes_by((NET,), BOX, 2, 3), wishes + [
            (row_of(1), (1, 1)), (row_of(2), (3, 1)), (row_of(-2), (-5, 2)),
        ])

    def test_those_of_the_first_net_go_ahead(self):
        other = Net(1, [[(row_of(7), (9, 1))], [(row_of(1), (0, 1))]])
        for nets in ([NET, other], (NET, other)):
            self.assertEqual(wishes_by(nets, BOX, 8, 4)[-1], (row_of(-7), (9, 1)))
            self.assertEqual(wishes_by(nets, BOX, 0, 4)[-1], (row_of(7), (-9, 1)))
            self.assertEqual(wishes_by(nets, BOX, 8, 4)[:-1], wishes_by([NET], BOX, 0, 3))
        self.assertEqual(wishes_by([other, NET], BOX, 1, 1)[-1], (row_of(-7), (9, 1)))
        self.assertEqual(wishes_by([other, NET], BOX, 10, 4)[3:], wishes_by([NET], BOX, 5, 3)[2:])

    def test_the_same_net_twice(self):
        told = wishes_by([NET, NET], BOX, 5 + 8 * 2, 6)
        self.assertEqual(told, wishes_by([NET], BOX, 5, 3) + wishes_by([NET], BOX, 2, 3)[2:])

    def test_drawn_ones_for_each_many(self):
        draws = Draws(114)
        for at in range(60):
            nets = nets_of(draws, at % 9)
            hidden = sum(net.hidden() for net in nets)
            box = draws.box(nets[0].ins())
            pattern = draws.below(2 ** hidden)
            for many in range(hidden + 1):
                told = wishes_by(nets, box, pattern, many)
                self.assertIsInstance(told, list)
                self.assertEqual([whole_wish(wish) for wish in told], wishes_of(nets, box, pattern, many))
                self.assertEqual(told[:2 * len(box)], box_wishes(box))

    def test_each_spot_keeps_the_wishes_of_its_own_pattern(self):
        draws = Draws(115)
        for at in range(40):
            nets = nets_of(draws, at % 9)
            box = draws.box(nets[0].ins())
            hidden = sum(net.hidden() for net in nets)
            for spot in spots_of(draws, box):
                pattern = 0
                for net in reversed(nets):
                    pattern = pattern * 2 ** net.hidden() + pattern_of(net, spot)
                own = [as_fraction(one) for one in spot]
                for many in range(hidden + 1):
                    wishes = [whole_wish(wish) for wish in wishes_by(nets, box, pattern, many)]
                    self.assertTrue(keeps_all(wishes, own))

    def test_more_than_eight_hidden_nodes(self):
        net = Draws(116).net(2, [4, 4, 4, 1])
        box = (row_of(0, 1), row_of(0, 1))
        self.assertEqual(len(wishes_by([net, net], box, 2 ** 24 - 1, 24)), 28)

    def test_the_list_is_the_askers_own(self):
        nets = [NET]
        told = wishes_by(nets, BOX, 5, 3)
        kept = list(told)
        told.clear()
        self.assertEqual(wishes_by(nets, BOX, 5, 3), kept)
        self.assertEqual(nets, [NET])


def not_nets():
    """Things that are not one or two nets of one in each."""
    two = Draws(117).net(2, [1, 1])
    return [
        [], (), [NET] * 3, (NET,) * 3, [NET, two], [two, NET], (NET, two), NET, [NET, None], [None, NET], [None], (NET, 0),
        [NET, NET.told()], [NET.told()], [[NET]], [(NET,)], {0: NET}, {NET: NET}, None, 0, 1, True, "", "net", [NET, True],
    ]


class RefusedTest(unittest.TestCase):
    def test_nets_first(self):
        for nets in not_nets() + strange_things():
            for rest in ((BOX, 0, 0), (None, None, None), (BOX, -1, 0), (BOX, 0, -1), ([], 99, 99)):
                with self.subTest(nets=repr(nets)[:60]):
                    self.assertIs(refused(self, NoFit, wishes_by, nets, *rest), nets)

    def test_then_the_box(self):
        for box in not_boxes() + strange_things() + [BOX * 2, BOX * 3]:
            for rest in ((0, 0), (None, None), (99, 0), (0, 99)):
                for nets in ([NET], (NET, NET)):
                    self.assertIs(refused(self, NoBox, wishes_by, nets, box, *rest), box)

    def test_then_the_pattern(self):
        for nets, edge in (([NET], 8), ((NET, NET), 64)):
            self.assertEqual(len(wishes_by(nets, BOX, edge - 1, 0)), 2)
            for pattern in [edge, edge + 1] + NOT_PATTERNS + strange_things():
                for many in (0, 99, None):
                    self.assertIs(refused(self, NoPattern, wishes_by, nets, BOX, pattern, many), pattern)

    def test_then_how_many(self):
        for nets, most in (([NET], 3), ((NET, NET), 6)):
            self.assertEqual(len(wishes_by(nets, BOX, 0, most)), 2 + most)
            for many in [most + 1, -1, True, False, None, "0", [], (1, 1), 10 ** 399] + strange_things():
                self.assertIs(refused(self, NoNumber, wishes_by, nets, BOX, 0, many), many)


if __name__ == "__main__":
    unittest.main()
