"""Points 5 to 8, 63 and 65: the greatest and the least that an aim weighs the outs, with a spot and a tree."""

import time
import unittest

from noughtcut.errors import Large, NoAim, NoBox, NoFit
from noughtcut.nets import Net, net_of
from noughtcut.numbers import is_fraction, is_row, minus
from noughtcut.trees import closes, greatest_at, least_at
from tests.test_boxes import not_boxes, spots_of
from tests.test_cases import not_nets
from tests.things import Draws, as_fraction, refused, row_of, strange_things
from tests.treeing import aimed, is_tree, nets_of, weighed, wishes_of
from tests.wishing import crossings, keeps_all, weighs

# The out is how far the in is from 1, and 3 put to it.
FAR = Net(1, [[(row_of(1), (-1, 1)), (row_of(-1), (1, 1))], [(row_of(1, 1), (3, 1))]])
BOX = (row_of(-1, 2),)
SECONDS = 20


def opposite(row):
    """A row with each fraction taken from nought."""
    return tuple((-top, bottom) for top, bottom in row)


def drawn_questions(seed, many):
    """Nets, a box and an aim, of none to eight hidden nodes; some boxes are flat, some aims have noughts."""
    draws = Draws(seed)
    for at in range(many):
        nets = nets_of(draws, at % 9)
        box = draws.box(nets[0].ins())
        if draws.below(6) == 0:
            box = tuple((low, low) for low, _ in box)
        aim = draws.row(sum(net.outs() for net in nets))
        if draws.below(4) == 0:
            aim = aim[:-1] + row_of(0)
        yield nets, box, aim


def greatest_of_all_cases(nets, box, aim):
    """The greatest, looked for at all crossings of the wishes of every case."""
    hidden = sum(net.hidden() for net in nets)
    best = None
    for pattern in range(2 ** hidden):
        wishes = wishes_of(nets, box, pattern, hidden)
        *row, number = aimed(nets, aim, pattern)
        for spot in crossings(wishes, len(box)):
            if keeps_all(wishes, spot) and (best is None or weighs(row, spot) + number > best):
                best = weighs(row, spot) + number
    return best


class GreatestTest(unittest.TestCase):
    def held_against(self, nets, box, aim, told, least):
        """All that the document says of the greatest, or of the least."""
        self.assertIsInstance(told, tuple)
        number, spot, tree = told
        self.assertIs(is_fraction(number), True)
        self.assertIs(is_row(spot, len(box)), True)
        for (low, high), one in zip(box, spot):
            self.assertTrue(as_fraction(low) <= as_fraction(one) <= as_fraction(high))
        self.assertEqual(weighed(nets, aim, spot), as_fraction(number))
        if least:
            aim, number = opposite(aim), (-number[0], number[1])
        self.assertTrue(is_tree(nets, box, aim, number, tree))
        self.assertIs(closes(nets, box, aim, number, tree), True)
        for less in ((1, 1), (1, 10 ** 12)):
            self.assertIs(closes(nets, box, aim, minus(number, less), tree), False)

    def test_known_ones(self):
        number, spot, tree = greatest_at([FAR], BOX, row_of(1))
        self.assertEqual((number, spot), ((5, 1), row_of(-1)))
        number, spot, tree = least_at([FAR], BOX, row_of(1))
        self.assertEqual((number, spot), ((3, 1), row_of(1)))
        number, spot, tree = greatest_at((FAR,), BOX, row_of(-2))
        self.assertEqual((number, spot), ((-6, 1), row_of(1)))
        number, spot, tree = greatest_at([FAR, FAR], BOX, row_of(1, -1))
        self.assertEqual(number, (0, 1))
        number, spot, tree = least_at([FAR, FAR], BOX, row_of(1, 1))
        self.assertEqual((number, spot), ((6, 1), row_of(1)))

    def test_a_net_without_hidden_nodes(self):
        net = Net(2, [[(row_of(1, -2), (1, 1)), (row_of(0, 1), (0, 1))]])
        box = (row_of(0, 1), row_of(-1, 3))
        number, spot, tree = greatest_at([net], box, row_of(1, 0))
        self.assertEqual((number, spot), ((4, 1), row_of(1, -1)))
        self.assertEqual(tree, ("most", row_of(1, 0, 0, 2)))
        number, spot, tree = least_at([net], box, row_of(1, 3))
        self.assertEqual((number, spot), ((0, 1), row_of(0, -1)))
        self.assertEqual(tree, ("most", row_of(0, 0, 1, 1)))

    def test_drawn_ones(self):
        for nets, box, aim in drawn_questions(121, 90):
            told = greatest_at(nets, box, aim)
            self.held_against(nets, box, aim, told, False)
            low = least_at(nets, box, aim)
            self.held_against(nets, box, aim, low, True)
            for spot in spots_of(Draws(1), box):
                self.assertTrue(as_fraction(low[0]) <= weighed(nets, aim, spot) <= as_fraction(told[0]))

    def test_against_all_cases(self):
        for at, (nets, box, aim) in enumerate(drawn_questions(122, 54)):
            if at % 9 < 5:
                wanted = greatest_of_all_cases(nets, box, aim)
                self.assertEqual(as_fraction(greatest_at(nets, box, aim)[0]), wanted)
                wanted = greatest_of_all_cases(nets, box, opposite(aim))
                self.assertEqual(as_fraction(least_at(nets, box, aim)[0]), -wanted)

    def test_an_aim_of_noughts(self):
        for ask in (greatest_at, least_at):
            number, spot, tree = ask([FAR, FAR], BOX, row_of(0, 0))
            self.assertEqual(number, (0, 1))
            self.assertIs(closes([FAR, FAR], BOX, row_of(0, 0), (0, 1), tree), True)

    def test_flat_boxes(self):
        draws = Draws(123)
        for at in range(18):
            nets = nets_of(draws, at % 9)
            spot = draws.row(nets[0].ins())
            box = tuple((one, one) for one in spot)
            aim = draws.row(sum(net.outs() for net in nets))
            for ask in (greatest_at, least_at):
                number, at_spot, tree = ask(nets, box, aim)
                self.assertEqual(at_spot, spot)
                self.assertEqual(as_fraction(number), weighed(nets, aim, spot))

    def test_asked_again(self):
        for nets, box, aim in drawn_questions(124, 18):
            kept = [net.told() for net in nets]
            alike = [net_of(told) for told in kept]
            for ask in (greatest_at, least_at):
                self.assertEqual(ask(nets, box, aim), ask(alike, box, aim))
                self.assertEqual(ask(nets, box, aim), ask(tuple(nets), box, aim))
            self.assertEqual([net.told() for net in nets], kept)

    def test_eight_hidden_nodes_over_three_ins(self):
        begun = time.perf_counter()
        draws = Draws(125)
        for shapes in ([[4, 4, 4]], [[3, 3, 2, 2]], [[4, 1], [4, 1]], [[2, 2, 2], [2, 2]]):
            nets = [draws.net(3, shape) for shape in shapes]
            aim = draws.row(sum(net.outs() for net in nets))
            self.held_against(nets, (row_of(-3, 3),) * 3, aim, greatest_at(nets, (row_of(-3, 3),) * 3, aim), False)
        self.assertLess(time.perf_counter() - begun, SECONDS)

    def test_weights_of_thirty_figures(self):
        begun = time.perf_counter()
        draws = Draws(126)
        ends = [draws.long_number(30) for _ in range(3)]
        box = tuple(((-abs(top), bottom), (abs(top), bottom)) for top, bottom in ends)
        for shapes in ([[4, 4, 2]], [[4, 2], [4, 1]]):
            nets = [Net(3, [[self.long_node(draws, ahead) for _ in range(many)] for ahead, many in zip([3, *shape], shape)])
                    for shape in shapes]
            aim = tuple(draws.long_number(30) for net in nets for _ in range(net.outs()))
            number, spot, tree = greatest_at(nets, box, aim)
            self.assertEqual(weighed(nets, aim, spot), as_fraction(number))
            self.assertIs(closes(nets, box, aim, number, tree), True)
        self.assertLess(time.perf_counter() - begun, SECONDS)

    def long_node(self, draws, many):
        """A sum over so many things, of numbers with thirty figures."""
        return (tuple(draws.long_number(30) for _ in range(many)), draws.long_number(30))


class RefusedTest(unittest.TestCase):
    def test_nets_first(self):
        for nets in not_nets() + strange_things():
            for box, aim in ((BOX, row_of(1)), (None, None), (BOX, None), ([], row_of(1))):
                for ask in (greatest_at, least_at):
                    with self.subTest(nets=repr(nets)[:60]):
                        self.assertIs(refused(self, NoFit, ask, nets, box, aim), nets)

    def test_then_the_box(self):
        nine = Draws(127).net(1, [4, 4, 1, 1])
        for box in not_boxes() + strange_things() + [BOX * 2, BOX * 3]:
            for nets in ([FAR], (FAR, FAR), [nine]):
                for aim in (row_of(1), None, []):
                    for ask in (greatest_at, least_at):
                        self.assertIs(refused(self, NoBox, ask, nets, box, aim), box)

    def test_then_the_aim(self):
        nine = Draws(128).net(1, [4, 4, 1, 1])
        for nets, many in (([FAR], 1), ((FAR, FAR), 2), ([nine], 1), ([nine, FAR], 2)):
            right = row_of(*range(many))
            things = [right + row_of(1), right[1:], list(right), (1,) * many, right[:-1] + ((2, 2),), right[:-1] + ((True, 1),)]
            for aim in things + [right[0], "1", None] + strange_things():
                for ask in (greatest_at, least_at):
                    with self.subTest(aim=repr(aim)[:60]):
                        self.assertIs(refused(self, NoAim, ask, nets, BOX, aim), aim)

    def test_then_too_many_hidden_nodes(self):
        draws = Draws(129)
        eight, nine = draws.net(1, [4, 4, 1]), draws.net(1, [4, 4, 1, 1])
        for nets, many in (([nine], 9), ([nine, nine], 18), ([eight, FAR], 10), ((FAR, draws.net(1, [4, 3, 1])), 9)):
            aim = row_of(1) * sum(net.outs() for net in nets)
            for ask in (greatest_at, least_at):
                self.assertEqual(refused(self, Large, ask, nets, BOX, aim), many)
        self.assertEqual(len(greatest_at([eight], BOX, row_of(1))), 3)
        self.assertEqual(len(greatest_at([FAR, draws.net(1, [4, 2, 1])], BOX, row_of(1, 1))), 3)


if __name__ == "__main__":
    unittest.main()
