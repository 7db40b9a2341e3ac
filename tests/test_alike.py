"""Points 5 to 8, 71 and 72: two nets held against one another within a box."""

import time
import unittest

from noughtcut.alike import are_alike as sooner
from noughtcut.alike import shows_alike, told_alike
from noughtcut.errors import Large, NoBox, NoFit
from noughtcut.nets import Net, net_of, with_number, with_weight
from noughtcut.numbers import is_row
from tests.netting import are_alike, exchanged, scaled
from tests.test_boxes import not_boxes, spots_of
from tests.things import Draws, as_fraction, as_tuple, come_to, refused, row_of, strange_things
from tests.treeing import against, bounds, cases_of, hidden_and_outs, one_net

BOX = (row_of(-1, 2),)
SQUARE = (row_of(0, 1), row_of(0, 1))
# How far the in is from 1, and 3 put to it: once by two nodes, once by one node that is taken twice and an in beside it.
FAR = Net(1, [[(row_of(1), (-1, 1)), (row_of(-1), (1, 1))], [(row_of(1, 1), (3, 1))]])
ONCE = Net(1, [[(row_of(1), (-1, 1)), (row_of(1), (9, 1))], [(row_of(2, -1), (13, 1))]])
SECONDS = 20


def is_alike_tree(one, other, box, tree):
    """Whether a tree shows that two nets are alike, looked at end by end."""
    nets, outs = [one, other], one.outs()
    for (word, told), wishes, pattern, many in cases_of(nets, box, tree):
        if word == "empty":
            good = against(wishes, told)
        else:
            sums = hidden_and_outs(nets, pattern)[1]
            more = [[by - less for by, less in zip(mine, its)] for mine, its in zip(sums[:outs], sums[outs:])]
            good = word == "same" and many == one.hidden() + other.hidden() and len(told) == outs and all(
                bounds(wishes, up, by, 0) and bounds(wishes, down, [-part for part in by], 0)
                for (up, down), by in zip(told, more))
        if many > one.hidden() + other.hidden() or not good:
            return False
    return True


def as_they_are(draws, net, box):
    """Nets that are alike to a net within a box, or nearly so, made by some change."""
    yield net
    yield net_of(net.told())
    for layer, node in net.places():
        yield scaled(net, layer, node, draws.one_of(((2, 1), (1, 3), (7, 5))))
        many = len(net.layers_told()[layer])
        if many > 1:
            yield exchanged(net, layer, node, (node + 1) % many)
        yield with_weight(net, layer + 1, 0, node, draws.number())
    yield with_number(net, len(net.layers_told()) - 1, 0, draws.number())


class AlikeTest(unittest.TestCase):
    def held_against(self, one, other, box):
        """What is told of two nets, looked at as the document says; whether they are alike."""
        told = told_alike(one, other, box)
        self.assertIsInstance(told, tuple)
        self.assertIs(shows_alike(one, other, box, told), True)
        if told[0] == "alike":
            self.assertEqual(len(told), 2)
            self.assertTrue(is_alike_tree(one, other, box, told[1]))
            for spot in spots_of(Draws(1), box):
                self.assertEqual(one.outs_at(spot), other.outs_at(spot))
            return True
        word, out, spot = told
        self.assertEqual(word, "unlike")
        self.assertIs(out.__class__, int)
        self.assertTrue(0 <= out < one.outs())
        self.assertIs(is_row(spot, len(box)), True)
        for (low, high), part in zip(box, spot):
            self.assertTrue(as_fraction(low) <= as_fraction(part) <= as_fraction(high))
        self.assertNotEqual(come_to(one, spot)[-1][out], come_to(other, spot)[-1][out])
        return False

    def test_known_ones(self):
        self.assertTrue(self.held_against(FAR, ONCE, BOX))
        self.assertTrue(self.held_against(ONCE, FAR, BOX))
        # Below -9 the second node of the one is cut.
        self.assertFalse(self.held_against(FAR, ONCE, (row_of(-10, 2),)))
        self.assertTrue(self.held_against(FAR, ONCE, (row_of(-9, 2),)))
        self.assertEqual(told_alike(FAR, ONCE, (row_of(-10, -9),))[1:], (0, row_of(-10)))

    def test_nodes_scaled_and_exchanged(self):
        draws = Draws(201)
        for shape in ([3, 2], [2, 2, 1], [1, 2, 1, 3]):
            net = draws.net(2, shape)
            for layer, node in net.places():
                self.assertTrue(self.held_against(net, scaled(net, layer, node, (5, 3)), SQUARE))
                self.assertTrue(self.held_against(scaled(net, layer, node, (1, 7)), net, SQUARE))
            self.assertTrue(self.held_against(exchanged(net, 0, 0, shape[0] - 1), net, SQUARE))

    def test_a_node_that_is_cut_in_the_whole_box(self):
        one = Net(2, [[(row_of(1, 1), (-2, 1)), (row_of(1, -1), (0, 1))], [(row_of(5, 1), (0, 1))]])
        other = Net(2, [[(row_of(1, -1), (0, 1))], [(row_of(1), (0, 1))]])
        # It comes to nought at just one corner, and to more behind it.
        self.assertTrue(self.held_against(one, other, SQUARE))
        self.assertTrue(self.held_against(other, one, SQUARE))
        self.assertFalse(self.held_against(one, other, (row_of(0, 1), row_of(0, "1001/1000"))))

    def test_a_wire_of_nought(self):
        one = Net(1, [[(row_of(1), (0, 1)), (row_of(3), (1, 1))], [(row_of(1, 0), (0, 1))]])
        other = Net(1, [[(row_of(1), (0, 1)), (row_of(-8), (2, 1))], [(row_of(1, 0), (0, 1))]])
        self.assertTrue(self.held_against(one, other, BOX))

    def test_only_near_a_corner(self):
        one = Net(2, [[(row_of(1, 1), row_of("-19/10")[0])], [(row_of(1), (0, 1))]])
        flat = Net(2, [[(row_of(0, 0), (0, 1))]])
        self.assertFalse(self.held_against(one, flat, SQUARE))
        self.assertFalse(self.held_against(flat, one, SQUARE))
        self.assertTrue(self.held_against(one, flat, (row_of(0, 1), row_of(0, "9/10"))))

    def test_only_beyond_the_box(self):
        one = Net(1, [[(row_of(1), (-2, 1))], [(row_of(1), (0, 1))]])
        other = Net(1, [[(row_of(3), (-6, 1))], [(row_of(7), (0, 1))]])
        self.assertTrue(self.held_against(one, other, BOX))
        self.assertFalse(self.held_against(one, other, (row_of(-1, "201/100"),)))

    def test_only_the_second_out(self):
        one = Net(1, [[(row_of(1), (0, 1)), (row_of(2), (0, 1))]])
        other = Net(1, [[(row_of(1), (0, 1)), (row_of(2), (1, 5))]])
        word, out, spot = told_alike(one, other, BOX)
        self.assertEqual((word, out), ("unlike", 1))
        self.assertFalse(self.held_against(other, one, BOX))

    def test_without_hidden_nodes(self):
        one = Net(2, [[(row_of(1, 2), (3, 1)), (row_of(0, 0), (1, 1))]])
        told = told_alike(one, net_of(one.told()), SQUARE)
        self.assertEqual(told[0], "alike")
        word, rows = told[1]
        self.assertEqual((word, len(rows)), ("same", 2))
        self.assertEqual(rows, ((row_of(0, 0, 0, 0),) * 2,) * 2)
        other = Net(2, [[(row_of(1, 2), (3, 1)), (row_of(1, 0), (1, 1))]])
        self.assertFalse(self.held_against(one, other, SQUARE))
        self.assertTrue(self.held_against(one, other, (row_of(0, 0), row_of(0, 1))))

    def test_drawn_ones(self):
        draws = Draws(202)
        words = {True: 0, False: 0}
        for hidden in (0, 1, 2, 3, 4, 1, 2, 3, 2, 3):
            net = one_net(draws, 1 + draws.below(3), hidden)
            box = draws.box(net.ins())
            for other in as_they_are(draws, net, box):
                told = self.held_against(net, other, box)
                words[told] += 1
                if hidden < 3:
                    self.assertEqual(told, are_alike(net, other, box))
        self.assertGreater(min(words.values()), 12)

    def test_pairs_of_all_sizes(self):
        draws = Draws(203)
        for hidden in range(9):
            for first in range(hidden + 1):
                ins, outs = 1 + draws.below(3), 1 + draws.below(2)
                one, other = [self.net_with_outs(draws, ins, many, outs) for many in (first, hidden - first)]
                told = self.held_against(one, other, draws.box(ins))
                if hidden == 0 and told:
                    self.assertEqual(one.outs(), other.outs())

    def net_with_outs(self, draws, ins, hidden, outs):
        """A net with so many hidden nodes and so many outs."""
        shape = [len(nodes) for nodes in one_net(draws, ins, hidden).layers_told()[:-1]]
        return draws.net(ins, [*shape, outs])

    def test_flat_boxes(self):
        draws = Draws(204)
        for hidden in range(5):
            net = one_net(draws, 2, hidden)
            spot = draws.row(2)
            flat = Net(2, [[(row_of(0, 0), one) for one in net.outs_at(spot)]])
            self.assertTrue(self.held_against(net, flat, tuple((one, one) for one in spot)))
            other = with_number(flat, 0, 0, (10 ** 30, 7))
            self.assertFalse(self.held_against(other, net, tuple((one, one) for one in spot)))
            self.held_against(net, flat, (row_of(-1, 1), (spot[1], spot[1])))

    def test_asked_again(self):
        draws = Draws(205)
        for hidden in range(5):
            net = one_net(draws, 2, hidden)
            box = draws.box(2)
            for other in as_they_are(draws, net, box):
                kept = (net.told(), other.told())
                told = told_alike(net, other, box)
                self.assertEqual(told, told_alike(net_of(net.told()), net_of(other.told()), box))
                self.assertEqual((net.told(), other.told()), kept)


def bump(draws, top):
    """A net that is nought at the ends of the box from -1 to 1, and above nought only near a spot between; in it, that."""
    at = as_fraction(draws.one_of(row_of("-1/2", 0, "1/3")))
    # Up to the spot and down behind it, each by a slope that comes to nought at an end of the box.
    up, down = 1 / (1 + at), 1 / (1 - at)
    nodes = [((as_tuple(up),), as_tuple(up)), ((as_tuple(up + down),), as_tuple(-at * (up + down)))]
    weights = row_of(1, -1)
    if draws.below(2):
        nodes, weights = nodes[::-1], weights[::-1]
    share = draws.one_of(row_of(0, "1/2", "9/10"))
    return Net(1, [nodes, [(weights, (-share[0], share[1]))], [((top,), (0, 1))]])


class SoonerTest(unittest.TestCase):
    def test_the_same_as_is_told_with_a_tree(self):
        draws = Draws(212)
        seen = {True: 0, False: 0}
        for at in range(60):
            one, other = [bump(draws, draws.one_of(row_of(1, 1, 2))) for _ in range(2)]
            if at % 3 == 0:
                other = scaled(one, at % 2, 0, (5, 2))
            box = draws.one_of(((row_of(-1, 1),), (row_of(-1, 1),), (row_of(-1, "-1/5"),), (row_of(-2, 2),)))
            wanted = told_alike(one, other, box)[0] == "alike"
            seen[wanted] += 1
            self.assertIs(sooner(one, other, box), wanted)
        self.assertGreater(min(seen.values()), 15)

    def test_drawn_ones(self):
        draws = Draws(213)
        for hidden in range(5):
            net = one_net(draws, 2, hidden)
            for box in (draws.box(2), draws.box(2)):
                for other in as_they_are(draws, net, box):
                    self.assertIs(sooner(net, other, box), told_alike(net, other, box)[0] == "alike")


class TimeTest(unittest.TestCase):
    def setUp(self):
        self.begun = time.perf_counter()

    def tearDown(self):
        self.assertLess(time.perf_counter() - self.begun, SECONDS)

    def test_eight_hidden_nodes_over_three_ins(self):
        draws = Draws(206)
        box = (row_of(-3, 3),) * 3
        for shape in ([4, 4], [2, 2, 4], [1, 1, 2, 2]):
            net = draws.net(3, shape)
            for other in (net, scaled(net, 0, 0, (7, 3))):
                told = told_alike(net, other, box)
                self.assertEqual(told[0], "alike")
                self.assertIs(shows_alike(net, other, box, told), True)

    def test_a_weight_of_thirty_figures(self):
        draws = Draws(207)
        box = (row_of(-3, 3),) * 3
        net = draws.net(3, [4, 2])
        for node in range(4):
            for place in range(3):
                net = with_weight(net, 0, node, place, draws.long_number(30))
        for other in (net, scaled(net, 0, 1, draws.long_number(30)), scaled(net, 0, 2, (7, 3))):
            told = told_alike(net, other, box)
            self.assertIs(shows_alike(net, other, box, told), True)


class RefusedTest(unittest.TestCase):
    def asked(self, kind, one, other, box):
        """What is found where both functions refuse."""
        found = refused(self, kind, told_alike, one, other, box)
        for thing in (("alike", ()), None, told_alike(FAR, ONCE, BOX)):
            again = refused(self, kind, shows_alike, one, other, box, thing)
            if kind is Large:
                self.assertEqual(again, found)
            else:
                self.assertIs(again, found)
        return found

    def test_other_nets_first(self):
        draws = Draws(208)
        for box in (BOX, None, SQUARE, []):
            for shape in ([1], [4, 4, 1], [4, 4, 4, 2]):
                one = draws.net(2, shape)
                for other in (draws.net(1, shape), draws.net(3, shape), draws.net(2, [*shape[:-1], shape[-1] + 1])):
                    self.assertIs(self.asked(NoFit, one, other, box), other)
                    self.assertIs(self.asked(NoFit, other, one, box), one)

    def test_then_the_box(self):
        five = Draws(209).net(1, [4, 1, 1])
        for box in not_boxes() + strange_things() + [SQUARE, BOX * 3]:
            for one, other in ((FAR, ONCE), (FAR, FAR), (five, five)):
                with self.subTest(box=repr(box)[:60]):
                    self.assertIs(self.asked(NoBox, one, other, box), box)

    def test_then_too_many_hidden_nodes(self):
        draws = Draws(210)
        for one, other in (([4, 1, 1], [4, 1]), ([4, 4, 1], [1, 1]), ([4, 4, 4, 1], [4, 4, 4, 1]), ([1], [4, 4, 1, 1])):
            one, other = draws.net(1, one), draws.net(1, other)
            self.assertEqual(self.asked(Large, one, other, BOX), one.hidden() + other.hidden())
        self.assertEqual(len(told_alike(draws.net(1, [4, 4, 1]), draws.net(1, [1]), BOX)), 3)


if __name__ == "__main__":
    unittest.main()
