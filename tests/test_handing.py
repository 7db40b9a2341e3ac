"""Points 6, 8, 51, 52 and 54: bounds handed on, and the states of hidden nodes by them."""

import unittest

from noughtcut.errors import NoBox
from noughtcut.handing import handed_on, states_of
from noughtcut.nets import Net
from tests.test_boxes import not_boxes, spots_of
from tests.things import Draws, as_fraction, as_tuple, come_to, refused, row_of, strange_things


def bounds_of(net, box):
    """The bounds as the document tells them, by Python's own fractions."""
    found = []
    spans = [(as_fraction(low), as_fraction(high)) for low, high in box]
    for nodes in net.told()[1]:
        layer = []
        for row, number in nodes:
            low = high = as_fraction(number)
            below, above = [], []
            for weight, span in zip(row, spans):
                by = as_fraction(weight)
                below.append(1 if by < 0 else 0)
                above.append(1 if by > 0 else 0)
                low += by * span[below[-1]]
                high += by * span[above[-1]]
            layer.append((as_tuple(low), as_tuple(high), tuple(below), tuple(above)))
        found.append(layer)
        spans = [(max(as_fraction(low), 0), max(as_fraction(high), 0)) for low, high, _, _ in layer]
    return found


def within(draws, box):
    """A box that lies within another one."""
    spots = [draws.spot(box) for _ in range(2)]
    return tuple(tuple(sorted(pair, key=as_fraction)) for pair in zip(*spots))


class HandedOnTest(unittest.TestCase):
    def test_a_known_one(self):
        net = Net(2, [
            [(row_of(1, -1), (0, 1)), (row_of(0, 2), (-1, 1)), (row_of(0, 0), (-3, 1))],
            [(row_of(1, -2, 5), (1, 2)), (row_of(-1, 0, 0), (-1, 1))],
        ])
        box = (row_of(0, 1), row_of(-1, 2))
        self.assertEqual(handed_on(net, box), [
            [((-2, 1), (2, 1), (0, 1), (1, 0)), ((-3, 1), (3, 1), (0, 0), (0, 1)), ((-3, 1), (-3, 1), (0, 0), (0, 0))],
            [((-11, 2), (5, 2), (0, 1, 0), (1, 0, 1)), ((-3, 1), (-1, 1), (1, 0, 0), (0, 0, 0))],
        ])
        self.assertEqual(states_of(net, box), ["open", "open", "cut"])

    def test_drawn_ones(self):
        draws = Draws(91)
        for at in range(150):
            net = draws.some_net()
            box = draws.box(net.ins())
            if at % 5 == 0:
                box = tuple((low, low) for low, _ in box)
            self.assertEqual(handed_on(net, box), bounds_of(net, box))

    def test_each_node_lies_within_its_bounds(self):
        draws = Draws(92)
        for _ in range(80):
            net = draws.some_net()
            box = draws.box(net.ins())
            bounds = handed_on(net, box)
            for spot in spots_of(draws, box):
                for sums, layer in zip(come_to(net, spot), bounds):
                    for one, (low, high, _, _) in zip(sums, layer):
                        self.assertTrue(as_fraction(low) <= one <= as_fraction(high))

    def test_never_wider_of_a_box_within(self):
        draws = Draws(93)
        for _ in range(80):
            net = draws.some_net()
            box = draws.box(net.ins())
            for inner, outer in zip(handed_on(net, within(draws, box)), handed_on(net, box)):
                for (low, high, _, _), (lower, higher, _, _) in zip(inner, outer):
                    self.assertTrue(as_fraction(lower) <= as_fraction(low) <= as_fraction(high) <= as_fraction(higher))

    def test_flat_boxes(self):
        draws = Draws(94)
        for _ in range(60):
            net = draws.some_net()
            spot = draws.row(net.ins())
            bounds = handed_on(net, tuple((one, one) for one in spot))
            told = [[(low, high) for low, high, _, _ in layer] for layer in bounds]
            self.assertEqual(told, [[(one, one) for one in sums] for sums in net.sums_at(spot)])

    def test_lists_told_are_the_askers_own(self):
        draws = Draws(95)
        net = draws.net(2, [2, 3, 1])
        box = draws.box(2)
        told = handed_on(net, box)
        kept = [list(layer) for layer in told]
        told[0].append(None)
        told[1].clear()
        told.pop()
        self.assertEqual(handed_on(net, box), kept)
        states = states_of(net, box)
        states.clear()
        self.assertEqual(len(states_of(net, box)), 5)


class StatesTest(unittest.TestCase):
    def state(self, low, high):
        """The state of a node that comes to the in, which lies between a low and a high."""
        net = Net(1, [[(row_of(1), (0, 1))], [(row_of(1), (0, 1))]])
        states = states_of(net, (row_of(low, high),))
        self.assertIsInstance(states, list)
        self.assertEqual(len(states), 1)
        return states[0]

    def test_by_low_and_high(self):
        for low, high, word in (
            (-2, -1, "cut"), (-2, 0, "cut"), (0, 0, "cut"), (-1, -1, "cut"), (0, 1, "kept"), (0, "1/1000", "kept"),
            (1, 2, "kept"), (1, 1, "kept"), (-1, 1, "open"), ("-1/1000", "1/1000", "open"), ("-1/1000", 5, "open"),
        ):
            self.assertEqual(self.state(low, high), word)

    def test_in_the_order_of_the_hidden_nodes(self):
        flat = [(row_of(0), (one, 1)) for one in (-1, 1, 0)]
        second = [(row_of(0, 0, 0), (1, 1)), (row_of(0, 1, 0), (-1, 1))]
        third = [(row_of(1, 1), (-2, 1))]
        net = Net(1, [flat + [(row_of(1), (0, 1))], [(row + row_of(1), number) for row, number in second], third])
        self.assertEqual(states_of(net, (row_of(-1, 1),)), ["cut", "kept", "cut", "open", "kept", "kept"])
        self.assertEqual(states_of(net, (row_of(-2, -1),)), ["cut", "kept", "cut", "cut", "kept", "cut"])

    def test_a_net_without_hidden_nodes(self):
        net = Net(1, [[(row_of(1), (0, 1))] * 3])
        self.assertEqual(states_of(net, (row_of(-1, 1),)), [])
        self.assertEqual(len(handed_on(net, (row_of(-1, 1),))), 1)

    def test_no_spot_has_it_otherwise(self):
        draws = Draws(96)
        words = {"cut": 0, "kept": 0, "open": 0}
        for _ in range(80):
            net = draws.some_net()
            box = draws.box(net.ins())
            states = states_of(net, box)
            self.assertEqual(len(states), net.hidden())
            for word in states:
                words[word] += 1
            for spot in spots_of(draws, box):
                hidden = [one for sums in come_to(net, spot)[:-1] for one in sums]
                for word, one in zip(states, hidden):
                    self.assertFalse(word == "cut" and one > 0)
                    self.assertFalse(word == "kept" and one < 0)
        self.assertGreater(min(words.values()), 50)


class NoBoxTest(unittest.TestCase):
    def test_no_box_or_one_of_another_size(self):
        draws = Draws(97)
        for ins in (1, 2, 3):
            net = draws.net(ins, [2, 1])
            others = [draws.box(many) for many in (1, 2, 3) if many != ins]
            for thing in not_boxes() + strange_things() + others:
                for ask in (handed_on, states_of):
                    with self.subTest(ins=ins, thing=repr(thing)[:60]):
                        self.assertIs(refused(self, NoBox, ask, net, thing), thing)


if __name__ == "__main__":
    unittest.main()
