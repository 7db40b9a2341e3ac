"""Points 5 to 8, 81 and 82: covers of a box by the patterns of its spots."""

import time
import unittest

from noughtcut.errors import Large, NoBox
from noughtcut.nets import Net, net_of
from noughtcut.pieces import cover_of, is_cover
from tests.test_answers import bent, moved
from tests.test_boxes import not_boxes, spots_of
from tests.things import Draws, as_fraction, deep_list, deep_tuple, pattern_of, refused, row_of, strange_things
from tests.treeing import against, cases_of, ends_of, large_nets, one_net, put_at

BOX = (row_of(-1, 2),)
SQUARE = (row_of(0, 1), row_of(0, 1))
# Two hidden nodes: the in less 1, and 1 less the in. So both are cut at just the spot 1, and never both are kept.
FAR = Net(1, [[(row_of(1), (-1, 1)), (row_of(-1), (1, 1))], [(row_of(1, 1), (3, 1))]])
AT_ONE, BELOW, ABOVE = ("piece", row_of(1)), ("piece", row_of(0)), ("piece", row_of(2))
# Kept strictly, once each, the two nodes come to just nought.
NEITHER = ("none", row_of(0, 0, 1, 1))
TREE = ("two", ("two", AT_ONE, BELOW), ("two", ABOVE, NEITHER))
SECONDS = 20


def keeping(box, pattern):
    """The places of the strict wishes of a case."""
    return [2 * len(box) + at for at in range(12) if pattern >> at & 1]


def is_cover_tree(net, box, tree):
    """Whether a tree covers a box, looked at end by end."""
    for (word, told), wishes, pattern, many in cases_of([net], box, tree):
        if word == "none":
            good = against(wishes, told, keeping(box, pattern))
        else:
            inside = all(as_fraction(low) <= as_fraction(one) <= as_fraction(high) for (low, high), one in zip(box, told))
            good = word == "piece" and many == net.hidden() and inside and pattern_of(net, told) == pattern
        if many > net.hidden() or not good:
            return False
    return True


def drawn_nets(seed, many):
    """Nets of none to eight hidden nodes and boxes, some of them flat, some nodes nought in the whole box."""
    draws = Draws(seed)
    for at in range(many):
        net = one_net(draws, 1 + draws.below(3), at % 9)
        box = draws.box(net.ins())
        if draws.below(5) == 0:
            box = tuple((low, low) for low, _ in box)
        if draws.below(4) == 0 and net.hidden():
            layers = net.layers_told()
            layers[0][0] = (row_of(0) * net.ins(), (0, 1))
            net = Net(net.ins(), layers)
        yield net, box


class CoverTest(unittest.TestCase):
    def held_against(self, net, box):
        """What is told, looked at as the document says."""
        told = cover_of(net, box)
        self.assertIsInstance(told, tuple)
        self.assertTrue(is_cover_tree(net, box, told))
        self.assertIs(is_cover(net, box, told), True)
        pieces = [pattern for (word, _), _, pattern, _ in cases_of([net], box, told) if word == "piece"]
        for spot in spots_of(Draws(1), box):
            self.assertIn(pattern_of(net, spot), pieces)
        return told

    def test_known_ones(self):
        told = self.held_against(FAR, BOX)
        self.assertEqual([end[0] for _, end in ends_of(told)], ["piece", "piece", "piece", "none"])
        self.assertEqual(told[1][1], AT_ONE)
        told = self.held_against(FAR, (row_of(2, 3),))
        self.assertEqual([end[0] for _, end in ends_of(told)], ["none", "piece", "none"])
        told = self.held_against(FAR, (row_of(1, 1),))
        self.assertEqual([end for _, end in ends_of(told)][0], AT_ONE)

    def test_without_hidden_nodes(self):
        net = Net(2, [[(row_of(1, 2), (0, 1))]])
        word, spot = self.held_against(net, SQUARE)
        self.assertEqual(word, "piece")

    def test_just_nought_everywhere(self):
        net = Net(1, [[(row_of(0), (0, 1))], [(row_of(1), (0, 1))]])
        told = self.held_against(net, BOX)
        self.assertEqual([end[0] for _, end in ends_of(told)], ["piece", "none"])
        net = Net(2, [[(row_of(1, -1), (0, 1))], [(row_of(1), (0, 1))]])
        told = self.held_against(net, (row_of(0, 0), row_of(0, 1)))
        self.assertEqual([end[0] for _, end in ends_of(told)], ["piece", "none"])

    def test_just_nought_at_a_corner(self):
        net = Net(2, [[(row_of(1, 1), (-2, 1)), (row_of(-1, -1), (0, 1))], [(row_of(1, 1), (0, 1))]])
        told = self.held_against(net, SQUARE)
        self.assertEqual([end[0] for _, end in ends_of(told)], ["piece", "none", "none"])
        net = Net(2, [[(row_of(-1, -1), (2, 1))], [(row_of(1), (0, 1))]])
        told = self.held_against(net, SQUARE)
        self.assertEqual(told[1], ("piece", row_of(1, 1)))

    def test_drawn_ones(self):
        words = {"none": 0, "piece": 0}
        for net, box in drawn_nets(251, 72):
            for _, (word, _) in ends_of(self.held_against(net, box)):
                words[word] += 1
        self.assertGreater(min(words.values()), 60)

    def test_asked_again(self):
        for net, box in drawn_nets(252, 18):
            kept = net.told()
            self.assertEqual(cover_of(net, box), cover_of(net_of(kept), box))
            self.assertEqual(net.told(), kept)

    def test_eight_hidden_nodes_over_three_ins(self):
        begun = time.perf_counter()
        for net in large_nets(253, ([4, 4, 4], [3, 3, 2, 2], [4, 2, 2, 1])):
            self.held_against(net, (row_of(-3, 3),) * 3)
        self.assertLess(time.perf_counter() - begun, SECONDS)


def covered(thing, box=BOX, net=FAR):
    """Whether a thing is a cover of a box by the net FAR."""
    return is_cover(net, box, thing)


class IsCoverTest(unittest.TestCase):
    def test_by_hand(self):
        self.assertIs(covered(TREE), True)
        self.assertTrue(is_cover_tree(FAR, BOX, TREE))

    def test_other_trees_and_spots_that_do(self):
        for at in (-1, "-1/2", "999/1000"):
            self.assertIs(covered(put_at(TREE, (1, 2), ("piece", row_of(at)))), True)
        for at in ("1001/1000", "3/2"):
            self.assertIs(covered(put_at(TREE, (2, 1), ("piece", row_of(at)))), True)
        for by in (2, "1/3", 10 ** 30):
            self.assertIs(covered(put_at(TREE, (2, 2), ("none", row_of(0, 0, by, by)))), True)
        right = (row_of(2, 3),)
        for cut in (("none", row_of(0, 1, 1, 0)), ("none", row_of(0, 3, 3, 0)), ("none", row_of(1, 4, 3, 0))):
            for kept in (("none", row_of(0, 1, 1, 0)), ("none", row_of(0, 1, 1, 1))):
                tree = ("two", ("two", cut, kept), ("two", ABOVE, NEITHER))
                wanted = is_cover_tree(FAR, right, tree)
                self.assertIs(covered(tree, right), wanted)
        tree = ("two", ("none", row_of(0, 1, 1)), ("two", ABOVE, NEITHER))
        self.assertIs(covered(tree, right), True)
        self.assertIs(covered(put_at(tree, (2, 2), ("none", row_of(0, 1, 0, 1))), right), True)
        self.assertIs(covered(tree, (row_of(1, 3),)), False)

    def test_just_nought_without_a_node_that_is_kept(self):
        for path, _ in ends_of(TREE):
            self.assertIs(covered(put_at(TREE, path, ("none", row_of(0, 0, 0, 0)))), False)
        # A node that is nought everywhere: kept it has no spot, by its own wish alone.
        flat = Net(1, [[(row_of(0), (0, 1))], [(row_of(1), (0, 1))]])
        self.assertIs(covered(("two", ("piece", row_of(0)), ("none", row_of(0, 0, 1))), net=flat), True)
        self.assertIs(covered(("two", ("none", row_of(0, 0, 1)), ("none", row_of(0, 0, 1))), net=flat), False)
        self.assertIs(covered(("two", ("piece", row_of(0)), ("none", row_of(0, 0, 0))), net=flat), False)
        self.assertIs(covered(("two", ("piece", row_of(0)), ("piece", row_of(0))), net=flat), False)
        # A box that is flat: its own wishes come to nought, and nothing is kept.
        self.assertIs(covered(("two", ("piece", row_of(1)), ("none", row_of(1, 1, 0))), (row_of(1, 1),), flat), False)
        self.assertIs(covered(("two", ("piece", row_of(1)), ("none", row_of(1, 1, 1))), (row_of(1, 1),), flat), True)

    def test_the_wish_of_a_node_that_is_cut_is_not_strict(self):
        # Cut first, kept behind: the kept one's multiple counts, the cut one's alone doesn't.
        net = Net(1, [[(row_of(1), (0, 1)), (row_of(1), (0, 1))], [(row_of(1, 1), (0, 1))]])
        good = ("two", ("two", ("piece", row_of(-1)), ("none", row_of(0, 0, 1, 1))),
                ("two", ("none", row_of(0, 0, 1, 1)), ("piece", row_of(1))))
        self.assertIs(covered(good, net=net), True)
        point = (row_of(0, 0),)
        flat = ("two", ("two", ("piece", row_of(0)), ("none", row_of(1, 0, 0, 1))), ("none", row_of(1, 0, 1)))
        self.assertIs(covered(flat, point, net), True)
        self.assertIs(covered(put_at(flat, (1, 1), ("none", row_of(0, 1, 1, 0))), point, net), False)
        self.assertIs(covered(put_at(flat, (1, 2), ("none", row_of(0, 1, 1, 0))), point, net), False)

    def test_a_spot_of_another_pattern_or_beyond_the_box(self):
        for path, at in (((1, 1), "1001/1000"), ((1, 1), 0), ((1, 2), 1), ((1, 2), 2), ((2, 1), 1), ((2, 1), 0), ((1, 2), -2),
                         ((2, 1), 3), ((2, 1), "2001/1000"), ((2, 2), 1), ((2, 2), 2)):
            self.assertIs(covered(put_at(TREE, path, ("piece", row_of(at)))), False)
        for path, (word, spot) in ends_of(TREE):
            if word == "piece":
                for thing in bent(spot) + strange_things():
                    self.assertIs(covered(put_at(TREE, path, ("piece", thing))), False)

    def test_multiples_that_are_bent(self):
        right = (row_of(2, 3),)
        tree = ("two", ("none", row_of(0, 1, 1)), ("two", ABOVE, NEITHER))
        for path, (word, row) in ends_of(tree):
            if word == "none":
                for at in range(len(row)):
                    for by in (1, -1, as_fraction((1, 1000)), as_fraction((-1, 1000))):
                        other = put_at(tree, path, (word, moved(row, at, by)))
                        self.assertIs(covered(other, right), is_cover_tree(FAR, right, other))
                for thing in bent(row) + strange_things():
                    self.assertIs(covered(put_at(tree, path, (word, thing)), right), False)
        self.assertIs(covered(put_at(tree, (2, 2), ("none", row_of(0, 0, -1, -1))), right), False)
        self.assertIs(covered(put_at(tree, (1,), ("none", row_of(-1, 0, 1))), right), False)

    def test_a_none_in_the_place_of_a_piece_and_the_other_way(self):
        for path, (word, told) in ends_of(TREE):
            for other in ("piece", "none"):
                if other != word:
                    self.assertIs(covered(put_at(TREE, path, (other, told))), False)
            if word == "piece":
                for row in ((0, 0, 0, 0), (0, 0, 1, 1), (1, 1, 0, 0), (0, 1, 1, 0), (0, 0, 1, 0), (0, 0, 0, 1)):
                    self.assertIs(covered(put_at(TREE, path, ("none", row_of(*row)))), False)

    def test_another_word(self):
        for path, (word, told) in ends_of(TREE):
            for other in ("empty", "most", "same", "against", "pieces", "None", "two", "", None, 0, True, b"none", [word], (word,)):
                self.assertIs(covered(put_at(TREE, path, (other, told))), False)
            self.assertIs(covered(put_at(TREE, path, [word, told])), False)
        for other in ("piece", "none", "twos", "Two", "", None, 2, True, ["two"]):
            self.assertIs(covered((other,) + TREE[1:]), False)
            self.assertIs(covered(put_at(TREE, (2,), (other,) + TREE[2][1:])), False)

    def test_sides_exchanged(self):
        self.assertIs(covered(("two", TREE[2], TREE[1])), False)
        self.assertIs(covered(("two", TREE[1], TREE[1])), False)
        self.assertIs(covered(("two", ("two", BELOW, AT_ONE), TREE[2])), False)
        self.assertIs(covered(("two", TREE[1], ("two", NEITHER, ABOVE))), False)

    def test_a_branch_left_out_or_one_more(self):
        for path in ((), (1,), (2,)):
            part = TREE
            for side in path:
                part = part[side]
            for other in (part[:2], part[:1], part + part[1:2], part + (None,), part[1:], part[1], list(part), (), (part,),
                          ("two", part), ("two", part[1], None), ("two", None, part[2]), ("two",)):
                with self.subTest(path=path, other=repr(other)[:60]):
                    self.assertIs(covered(put_at(TREE, path, other)), False)

    def test_an_end_ahead_of_its_place(self):
        for path in ((), (1,), (2,)):
            for at in (0, 1, 2):
                self.assertIs(covered(put_at(TREE, path, ("piece", row_of(at)))), False)
        flat = Net(1, [[(row_of(1), (-9, 1))], [(row_of(1), (0, 1))]])
        self.assertIs(covered(("piece", row_of(0)), net=flat), False)
        self.assertIs(covered(("two", ("piece", row_of(0)), ("none", row_of(1, 0, 1))), net=flat), True)

    def test_a_case_more_than_there_are_hidden_nodes(self):
        for path, end in ends_of(TREE):
            for other in (end, ("none", NEITHER[1] + row_of(0)), ("none", NEITHER[1] + row_of(1))):
                self.assertIs(covered(put_at(TREE, path, ("two", end, other))), False)
        none = Net(1, [[(row_of(1), (0, 1))]])
        self.assertIs(covered(("piece", row_of(0)), net=none), True)
        self.assertIs(covered(("two", ("piece", row_of(0)), ("piece", row_of(0))), net=none), False)

    def test_deep_trees(self):
        tree = TREE
        for _ in range(18):
            tree = ("two", tree, TREE)
            self.assertIs(covered(tree), False)
        self.assertIs(covered(deep_tuple(20)), False)
        self.assertIs(covered(("two", deep_tuple(19), deep_list(19))), False)

    def test_any_other_thing(self):
        for thing in strange_things() + not_boxes() + [TREE[1:], list(TREE), [TREE], (TREE,), FAR, [FAR], "two", "piece", 5]:
            with self.subTest(thing=repr(thing)[:60]):
                self.assertIs(covered(thing), False)
                self.assertIs(covered(("two", thing, TREE[2])), False)
                self.assertIs(covered(("two", TREE[1], thing)), False)
                self.assertIs(covered(("two", ("two", thing, BELOW), TREE[2])), False)

    def test_of_another_net_or_box(self):
        other = Net(1, [[(row_of(1), (-1, 1)), (row_of(-1), (2, 1))], [(row_of(1, 1), (3, 1))]])
        self.assertIs(covered(TREE, net=other), False)
        self.assertIs(covered(TREE, (row_of(-1, "1/2"),)), False)
        self.assertIs(covered(TREE, (row_of(-5, 5),)), True)


class RefusedTest(unittest.TestCase):
    def test_box_first(self):
        nine = Draws(254).net(1, [4, 4, 1, 1])
        for box in not_boxes() + strange_things() + [SQUARE, BOX * 3]:
            for net in (FAR, nine):
                self.assertIs(refused(self, NoBox, cover_of, net, box), box)
                for thing in (TREE, None):
                    self.assertIs(refused(self, NoBox, is_cover, net, box, thing), box)

    def test_then_too_many_hidden_nodes(self):
        draws = Draws(255)
        for shape, many in (([4, 4, 1, 1], 9), ([4, 4, 4, 1], 12)):
            net = draws.net(1, shape)
            self.assertEqual(refused(self, Large, cover_of, net, BOX), many)
            for thing in (TREE, None, deep_tuple(20)):
                self.assertEqual(refused(self, Large, is_cover, net, BOX, thing), many)


if __name__ == "__main__":
    unittest.main()
