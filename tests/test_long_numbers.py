"""Point 5: fractions of four hundred figures in nets and boxes are answered within a few seconds."""

import time
import unittest

from noughtcut.boxes import box_wishes, greatest_of, is_in, least_of, middle
from noughtcut.nets import Net, net_of, node_net, same_net
from noughtcut.nettext import show_box, show_net
from tests.things import Draws, as_tuple, come_to, pattern_of

SECONDS = 10


class LongNumbersTest(unittest.TestCase):
    def setUp(self):
        self.begun = time.perf_counter()

    def tearDown(self):
        self.assertLess(time.perf_counter() - self.begun, SECONDS)

    def node(self, draws, many):
        """A sum over so many things, of numbers with four hundred figures."""
        return (tuple(draws.long_number(400) for _ in range(many)), draws.long_number(400))

    def test_a_net(self):
        draws = Draws(81)
        net = Net(3, [[self.node(draws, ahead) for _ in range(4)] for ahead in (3, 4, 4, 4)])
        spot = tuple(draws.long_number(400) for _ in range(3))
        wanted = [tuple(as_tuple(one) for one in sums) for sums in come_to(net, spot)]
        self.assertEqual(net.sums_at(spot), wanted)
        self.assertEqual(net.pattern_at(spot), pattern_of(net, spot))
        self.assertEqual(node_net(net, 2, 3).outs_at(spot), (wanted[2][3],))
        self.assertIs(same_net(net_of(net.told()), net), True)
        self.assertEqual(len(show_net(net).split("\n")), 21)

    def test_a_box(self):
        draws = Draws(82)
        ends = [draws.long_number(400) for _ in range(3)]
        box = tuple(((-abs(top), bottom), (abs(top), bottom)) for top, bottom in ends)
        one = self.node(draws, 3)
        self.assertEqual(middle(box), ((0, 1),) * 3)
        self.assertIs(is_in(box, least_of(box, one)[1]), True)
        self.assertIs(is_in(box, greatest_of(box, one)[1]), True)
        self.assertEqual(len(box_wishes(box)), 6)
        self.assertEqual(len(show_box(box).split("\n")), 3)


if __name__ == "__main__":
    unittest.main()
