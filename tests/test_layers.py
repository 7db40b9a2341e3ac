"""Point 22: layers, plain and cut."""

import unittest

from noughtcut.layers import CutLayer, Layer
from noughtcut.numbers import is_row
from tests.things import as_fraction, as_tuple, row_of, some_numbers

NODES = [
    (row_of(1, 0), (0, 1)),
    (row_of(-1, "1/2"), (1, 3)),
    (row_of("2/3", -1), (-1, 1)),
    (row_of(0, 0), (-7, 5)),
]


class LayerTest(unittest.TestCase):
    def test_it_is_made_of_a_list_or_a_tuple(self):
        for kind in (Layer, CutLayer):
            for nodes in (list(NODES), tuple(NODES)):
                layer = kind(nodes)
                self.assertEqual(layer.told(), tuple(NODES))
                self.assertIsInstance(layer.told(), tuple)
                self.assertEqual(layer.sums(row_of(1, 2)), row_of(1, "1/3", "-7/3", "-7/5"))

    def test_one_is_under_the_other(self):
        self.assertEqual(CutLayer.__bases__, (Layer,))
        self.assertIsInstance(CutLayer(NODES), Layer)
        self.assertNotIsInstance(Layer(NODES), CutLayer)

    def test_sums_and_passed_at_a_row(self):
        row = row_of(1, 2)
        sums = row_of(1, "1/3", "-7/3", "-7/5")
        self.assertEqual(Layer(NODES).sums(row), sums)
        self.assertEqual(Layer(NODES).passed(row), sums)
        self.assertEqual(CutLayer(NODES).sums(row), sums)
        self.assertEqual(CutLayer(NODES).passed(row), row_of(1, "1/3", 0, 0))

    def test_at_nought_just_above_and_just_below_it(self):
        just = 10 ** 400 - 1
        nodes = [(row_of(1), (0, 1))]
        for one in ((0, 1), (1, just), (just, 1)):
            self.assertEqual(Layer(nodes).passed((one,)), (one,))
            self.assertEqual(CutLayer(nodes).passed((one,)), (one,))
        for one in ((-1, just), (-just, 1), (-1, 1)):
            self.assertEqual(Layer(nodes).passed((one,)), (one,))
            self.assertEqual(CutLayer(nodes).sums((one,)), (one,))
            self.assertEqual(CutLayer(nodes).passed((one,)), ((0, 1),))

    def test_a_sum_that_comes_to_nought(self):
        nodes = [(row_of(1, -1), (0, 1)), (row_of(-2, 2), (0, 1))]
        for kind in (Layer, CutLayer):
            self.assertEqual(kind(nodes).sums(row_of("1/3", "1/3")), row_of(0, 0))
            self.assertEqual(kind(nodes).passed(row_of("1/3", "1/3")), row_of(0, 0))

    def test_over_no_things(self):
        nodes = [((), (3, 2)), ((), (0, 1)), ((), (-3, 2))]
        for kind in (Layer, CutLayer):
            self.assertEqual(kind(nodes).told(), tuple(nodes))
            self.assertEqual(kind(nodes).sums(()), row_of("3/2", 0, "-3/2"))
        self.assertEqual(Layer(nodes).passed(()), row_of("3/2", 0, "-3/2"))
        self.assertEqual(CutLayer(nodes).passed(()), row_of("3/2", 0, 0))

    def test_without_nodes(self):
        for kind in (Layer, CutLayer):
            for nodes in ([], ()):
                self.assertEqual(kind(nodes).told(), ())
                self.assertEqual(kind(nodes).sums(row_of(1, 2)), ())
                self.assertEqual(kind(nodes).passed(row_of(1, 2)), ())

    def test_a_list_that_is_changed_afterwards(self):
        for kind in (Layer, CutLayer):
            nodes = list(NODES)
            layer = kind(nodes)
            nodes[0] = (row_of(5, 5), (5, 1))
            nodes.append((row_of(9, 9), (9, 1)))
            self.assertEqual(layer.told(), tuple(NODES))
            self.assertEqual(layer.sums(row_of(1, 2)), row_of(1, "1/3", "-7/3", "-7/5"))
            nodes.clear()
            self.assertEqual(layer.told(), tuple(NODES))
            self.assertEqual(len(layer.passed(row_of(1, 2))), 4)

    def test_what_is_handed_in_is_not_changed(self):
        for kind in (Layer, CutLayer):
            nodes = list(NODES)
            layer = kind(nodes)
            layer.passed(row_of(1, 2))
            self.assertEqual(nodes, NODES)

    def test_two_layers_of_one_list_are_apart(self):
        nodes = list(NODES)
        one = Layer(nodes)
        nodes.pop()
        other = CutLayer(nodes)
        self.assertEqual(one.told(), tuple(NODES))
        self.assertEqual(other.told(), tuple(NODES[:3]))

    def test_asked_again_it_tells_the_same(self):
        for kind in (Layer, CutLayer):
            layer, alike = kind(NODES), kind(tuple(NODES))
            for _ in range(2):
                self.assertEqual(layer.told(), alike.told())
                self.assertEqual(layer.sums(row_of(-1, 3)), alike.sums(row_of(-1, 3)))
                self.assertEqual(layer.passed(row_of(-1, 3)), alike.passed(row_of(-1, 3)))

    def test_numbers_of_all_sizes(self):
        numbers = some_numbers()
        nodes = [((one, numbers[-at - 1]), numbers[at // 2]) for at, one in enumerate(numbers)]
        for at, one in enumerate(numbers):
            row = (one, numbers[(at + 5) % len(numbers)])
            wanted = []
            for weights, number in nodes:
                come = as_fraction(number)
                for weight, by in zip(weights, row):
                    come += as_fraction(weight) * as_fraction(by)
                wanted.append(come)
            plain = tuple(as_tuple(come) for come in wanted)
            cut = tuple(as_tuple(max(come, 0)) for come in wanted)
            self.assertIs(is_row(plain, len(nodes)), True)
            self.assertEqual(Layer(nodes).sums(row), plain)
            self.assertEqual(Layer(nodes).passed(row), plain)
            self.assertEqual(CutLayer(nodes).sums(row), plain)
            self.assertEqual(CutLayer(nodes).passed(row), cut)


if __name__ == "__main__":
    unittest.main()
