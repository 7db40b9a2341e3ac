"""Points 6, 8, 53 and 54: tighter sums."""

import unittest
from fractions import Fraction

from noughtcut.errors import NoBox
from noughtcut.handing import handed_on
from noughtcut.nets import Net
from noughtcut.tighter import tightened
from tests.test_boxes import not_boxes, spots_of, tells
from tests.test_handing import bounds_of
from tests.things import Draws, as_fraction, as_tuple, come_to, refused, row_of, strange_things


def tight_sums(net, box):
    """The tighter sums as the document tells them: rows with the number behind them, of Python's own fractions."""
    many = net.ins()
    ahead = [[[Fraction(at == place) for at in range(many + 1)]] * 2 for place in range(many)]
    found = []
    for nodes, bounds in zip(net.told()[1], bounds_of(net, box)):
        layer = []
        for (row, number), (low, high, _, _) in zip(nodes, bounds):
            under = [Fraction(0)] * many + [as_fraction(number)]
            over = list(under)
            for weight, pair in zip(row, ahead):
                by = as_fraction(weight)
                first, second = pair if by > 0 else pair[::-1]
                under = [one + by * more for one, more in zip(under, first)]
                over = [one + by * more for one, more in zip(over, second)]
            low = max(as_fraction(low), extreme(under, box, min))
            high = min(as_fraction(high), extreme(over, box, max))
            layer.append((under, over, low, high))
        found.append(layer)
        ahead = [passed(*four) for four in layer]
    return found


def extreme(one, box, end):
    """The least or the greatest that a sum tells in a box."""
    total = one[-1]
    for by, span in zip(one, box):
        total += end(by * as_fraction(span[0]), by * as_fraction(span[1]))
    return total


def passed(under, over, low, high):
    """The two sums that are passed on of a node."""
    noughts = [Fraction(0)] * len(under)
    if high <= 0:
        return [noughts, noughts]
    if low >= 0:
        return [under, over]
    times = high / (high - low)
    line = [times * one for one in over[:-1]] + [times * (over[-1] - low)]
    return [under if low + high > 0 else noughts, line]


def as_sum(one):
    """The program's sum for a row with its number behind it."""
    return (tuple(as_tuple(by) for by in one[:-1]), as_tuple(one[-1]))


class TightenedTest(unittest.TestCase):
    def one_behind(self, node, low, high):
        """The four of an out that takes, twice, a node over an in from a low to a high; the node ahead's four too."""
        net = Net(1, [[node], [(row_of(2), (1, 1))]])
        told = tightened(net, (row_of(low, high),))
        return told[0][0], told[1][0]

    def test_a_node_of_the_first_layer(self):
        node = (row_of(3), (1, 2))
        ahead, _ = self.one_behind(node, -1, 1)
        self.assertEqual(ahead, (node, node, (-5, 2), (7, 2)))

    def test_behind_a_node_that_is_cut(self):
        noughts = (row_of(0), (1, 1))
        for number in (-1, -2, -9):
            _, out = self.one_behind((row_of(1), (number, 1)), -1, 1)
            self.assertEqual(out, (noughts, noughts, (1, 1), (1, 1)))
        # Cut, and kept as well: it comes to just nought in all of a flat box.
        _, out = self.one_behind((row_of(1), (-1, 1)), 1, 1)
        self.assertEqual(out, (noughts, noughts, (1, 1), (1, 1)))

    def test_behind_a_node_that_is_kept(self):
        for number in (1, 2, 9):
            _, out = self.one_behind((row_of(1), (number, 1)), -1, 1)
            wanted = (row_of(2), (2 * number + 1, 1))
            self.assertEqual(out, (wanted, wanted, (2 * number - 1, 1), (2 * number + 3, 1)))

    def test_behind_a_node_that_is_open(self):
        # From -1 to 3: more than nought together, so that the node itself is passed on below.
        _, out = self.one_behind((row_of(1), (1, 1)), -2, 2)
        self.assertEqual(out, ((row_of(2), (3, 1)), (row_of("3/2"), (4, 1)), (1, 1), (7, 1)))
        # From -3 to 1: less than nought together, so that noughts are.
        _, out = self.one_behind((row_of(1), (-1, 1)), -2, 2)
        self.assertEqual(out, ((row_of(0), (1, 1)), (row_of("1/2"), (2, 1)), (1, 1), (3, 1)))
        # From -2 to 2: just nought together, so that noughts are.
        _, out = self.one_behind((row_of(1), (0, 1)), -2, 2)
        self.assertEqual(out, ((row_of(0), (1, 1)), (row_of(1), (3, 1)), (1, 1), (5, 1)))

    def test_a_weight_below_nought_takes_them_the_other_way_about(self):
        net = Net(1, [[(row_of(1), (1, 1))], [(row_of(-2), (1, 1))]])
        told = tightened(net, (row_of(-2, 2),))
        self.assertEqual(told[1], [((row_of("-3/2"), (-2, 1)), (row_of(-2), (-1, 1)), (-5, 1), (1, 1))])

    def test_a_weight_of_nought_takes_none(self):
        net = Net(1, [[(row_of(1), (1, 1)), (row_of(1), (0, 1))], [(row_of(0, 1), (1, 1))]])
        told = tightened(net, (row_of(1, 2),))
        self.assertEqual(told[1], [((row_of(1), (1, 1)), (row_of(1), (1, 1)), (2, 1), (3, 1))])

    def test_tighter_than_what_is_handed_on(self):
        # The in less itself: what is handed on knows nothing of that.
        net = Net(1, [[(row_of(1), (0, 1))] * 2, [(row_of(1, -1), (0, 1))]])
        box = (row_of(0, 5),)
        self.assertEqual(handed_on(net, box)[1][0][:2], ((-5, 1), (5, 1)))
        self.assertEqual(tightened(net, box)[1][0], ((row_of(0), (0, 1)), (row_of(0), (0, 1)), (0, 1), (0, 1)))

    def test_drawn_ones(self):
        draws = Draws(101)
        for at in range(150):
            net = draws.some_net()
            box = draws.box(net.ins())
            if at % 10 == 0:
                box = tuple((low, low) for low, _ in box)
            wanted = [
                [(as_sum(under), as_sum(over), as_tuple(low), as_tuple(high)) for under, over, low, high in layer]
                for layer in tight_sums(net, box)
            ]
            self.assertEqual(tightened(net, box), wanted)

    def test_each_node_lies_between_them(self):
        draws = Draws(102)
        for _ in range(80):
            net = draws.some_net()
            box = draws.box(net.ins())
            told = tightened(net, box)
            for spot in spots_of(draws, box):
                for sums, layer in zip(come_to(net, spot), told):
                    for one, (under, over, low, high) in zip(sums, layer):
                        self.assertTrue(tells(under, spot) <= one <= tells(over, spot))
                        self.assertTrue(as_fraction(low) <= one <= as_fraction(high))

    def test_never_wider_than_what_is_handed_on(self):
        draws = Draws(103)
        narrower = 0
        for _ in range(100):
            net = draws.some_net()
            box = draws.box(net.ins())
            for layer, bounds in zip(tightened(net, box), handed_on(net, box)):
                for (_, _, low, high), (lower, higher, _, _) in zip(layer, bounds):
                    self.assertTrue(as_fraction(lower) <= as_fraction(low) <= as_fraction(high) <= as_fraction(higher))
                    narrower += (low, high) != (lower, higher)
        self.assertGreater(narrower, 30)

    def test_flat_boxes(self):
        draws = Draws(104)
        for _ in range(60):
            net = draws.some_net()
            spot = draws.row(net.ins())
            told = tightened(net, tuple((one, one) for one in spot))
            bounds = [[(low, high) for _, _, low, high in layer] for layer in told]
            self.assertEqual(bounds, [[(one, one) for one in sums] for sums in net.sums_at(spot)])

    def test_lists_told_are_the_askers_own(self):
        draws = Draws(105)
        net = draws.net(2, [2, 3, 1])
        box = draws.box(2)
        told = tightened(net, box)
        kept = [list(layer) for layer in told]
        told[0].append(None)
        told[1].clear()
        told.pop()
        self.assertEqual(tightened(net, box), kept)

    def test_no_box_or_one_of_another_size(self):
        draws = Draws(106)
        for ins in (1, 2, 3):
            net = draws.net(ins, [2, 1])
            others = [draws.box(many) for many in (1, 2, 3) if many != ins]
            for thing in not_boxes() + strange_things() + others:
                with self.subTest(ins=ins, thing=repr(thing)[:60]):
                    self.assertIs(refused(self, NoBox, tightened, net, thing), thing)


if __name__ == "__main__":
    unittest.main()
