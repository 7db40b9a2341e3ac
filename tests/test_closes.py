"""Point 64: whether a thing is a tree that closes an aim at a number."""

import unittest

from noughtcut.errors import Large, NoAim, NoBox, NoFit, NoNumber
from noughtcut.nets import Net
from noughtcut.trees import closes, greatest_at
from tests.test_answers import bent, moved
from tests.test_boxes import not_boxes
from tests.test_cases import not_nets
from tests.test_trees import FAR, drawn_questions
from tests.things import Draws, as_fraction, as_tuple, deep_list, deep_tuple, refused, row_of, strange_things
from tests.treeing import ends_of, is_tree, put_at

BOX = (row_of(-1, 2),)
ONE = row_of(1)
# By hand: both cut is only the spot 1, both kept as well; then 3 in any case. Else 3 and how far it is from 1.
BOTH_CUT = ("most", row_of(0, 0, 0, 0))
LEFT = ("most", row_of(0, 1, 0, 0))
RIGHT = ("most", row_of(1, 0, 0, 0))
BOTH_KEPT = ("most", row_of(0, 0, 0, 0))
TREE = ("two", ("two", BOTH_CUT, LEFT), ("two", RIGHT, BOTH_KEPT))


def is_closed(tree, number=(5, 1), aim=ONE, box=BOX, nets=(FAR,)):
    """Whether a thing closes an aim of the net FAR."""
    return closes(nets, box, aim, number, tree)


class ClosesTest(unittest.TestCase):
    def test_by_hand(self):
        self.assertIs(is_closed(TREE), True)
        self.assertIs(is_closed(TREE, nets=[FAR]), True)
        for number, wanted in (((5, 1), True), ((6, 1), True), ((51, 10), True), ((10 ** 399, 1), True), ((49, 10), False),
                               ((4, 1), False), ((0, 1), False), ((-5, 1), False), ((5 * 10 ** 30 - 1, 10 ** 30), False)):
            self.assertIs(is_closed(TREE, number), wanted)

    def test_ends_that_have_no_spot(self):
        box = (row_of(2, 3),)
        empty = ("empty", row_of(0, 1, 1))
        tree = ("two", empty, ("two", ("most", row_of(1, 0, 0, 0)), ("empty", row_of(0, 1, 0, 1))))
        self.assertIs(is_closed(tree, box=box), True)
        self.assertIs(is_closed(tree, (4, 1), box=box), False)
        self.assertIs(is_closed(tree), False)
        # One that comes to just nought, one whose row is not of noughts, one that is no end of this case.
        self.assertIs(is_closed(put_at(tree, (1,), ("empty", row_of(0, 0, 0))), box=box), False)
        self.assertIs(is_closed(put_at(tree, (1,), ("empty", row_of(1, 1, 0))), box=box), False)
        for multiples in (row_of(0, 1, 2), row_of(0, 1, 0), row_of(0, 2, 1), row_of(0, "1001/1000", 1)):
            self.assertIs(is_closed(put_at(tree, (1,), ("empty", multiples)), box=box), False)
        self.assertIs(is_closed(put_at(tree, (1,), ("empty", row_of(0, 2, 2))), box=box), True)
        self.assertIs(is_closed(put_at(tree, (1,), ("empty", row_of(1, 2, 1))), box=box), False)
        self.assertIs(is_closed(put_at(tree, (1,), ("empty", row_of(1, 3, 2))), box=box), True)
        edge = (row_of(1, 3),)
        self.assertIs(is_closed(put_at(tree, (1,), empty), box=edge), False)

    def test_what_was_told(self):
        for nets, box, aim in drawn_questions(131, 45):
            number, _, tree = greatest_at(nets, box, aim)
            own = as_fraction(number)
            self.assertTrue(is_tree(nets, box, aim, number, tree))
            for more in (0, 1, as_fraction((1, 10 ** 12)), 10 ** 50):
                self.assertIs(closes(nets, box, aim, as_tuple(own + more), tree), True)
            for less in (1, as_fraction((1, 10 ** 12)), 10 ** 50):
                self.assertIs(closes(nets, box, aim, as_tuple(own - less), tree), False)

    def test_a_net_without_hidden_nodes(self):
        net = Net(2, [[(row_of(1, -2), (1, 1))]])
        box = (row_of(0, 1), row_of(-1, 3))
        tree = ("most", row_of(1, 0, 0, 2))
        self.assertIs(closes([net], box, ONE, (4, 1), tree), True)
        self.assertIs(closes([net], box, ONE, (39, 10), tree), False)
        self.assertIs(closes([net], box, ONE, (4, 1), ("two", tree, tree)), False)
        self.assertIs(closes([net], box, ONE, (9, 1), ("empty", row_of(1, 0, 0, 2))), False)
        self.assertIs(closes([net], box, ONE, (9, 1), ("most", row_of(1, 0, 0, 2, 0))), False)
        self.assertIs(closes([net], box, ONE, (9, 1), ("most", row_of(1, 1, 0, 3))), True)
        self.assertIs(closes([net], box, ONE, (6, 1), ("most", row_of(1, 1, 0, 3))), False)


class BentTest(unittest.TestCase):
    def test_multiples_that_are_bent(self):
        for path, (word, multiples) in ends_of(TREE):
            for at in range(4):
                for by in (1, -1, as_fraction((1, 1000)), as_fraction((-1, 1000))):
                    other = moved(multiples, at, by)
                    wanted = is_tree((FAR,), BOX, ONE, (5, 1), put_at(TREE, path, (word, other)))
                    self.assertIs(is_closed(put_at(TREE, path, (word, other))), wanted)
                    if other[at][0] < 0:
                        self.assertIs(wanted, False)
            for thing in bent(multiples) + strange_things():
                with self.subTest(path=path, thing=repr(thing)[:60]):
                    self.assertIs(is_closed(put_at(TREE, path, (word, thing))), False)

    def test_multiples_below_nought(self):
        # The rows come to the aim's row and the numbers to less, but one is taken less than nought times.
        box = (row_of(1, 2),)
        net = Net(1, [[(row_of(1), (0, 1))]])
        self.assertIs(closes([net], box, ONE, (2, 1), ("most", row_of(1, 0))), True)
        self.assertIs(closes([net], box, ONE, (1, 1), ("most", row_of(0, -1))), False)
        self.assertIs(closes([net], box, ONE, (9, 1), ("most", row_of(0, -1))), False)
        self.assertIs(closes([net], box, ONE, (9, 1), ("empty", row_of(-1, -1))), False)

    def test_another_word(self):
        words = ["empty", "mos", "mosts", "Most", "two", "", "none", "piece", "against", "same", None, 0, True, b"most", ["most"],
                 ("most",), {}]
        for path, (_, multiples) in ends_of(TREE):
            for word in words:
                self.assertIs(is_closed(put_at(TREE, path, (word, multiples))), False)
            self.assertIs(is_closed(put_at(TREE, path, [TREE[0], multiples])), False)
        for word in ["most", "empty", "twos", "Two", "", None, 2, True, ["two"]]:
            self.assertIs(is_closed((word,) + TREE[1:]), False)
            self.assertIs(is_closed(put_at(TREE, (1,), (word,) + TREE[1][1:])), False)

    def test_sides_exchanged(self):
        self.assertIs(is_closed(("two", TREE[2], TREE[1])), False)
        self.assertIs(is_closed(("two", TREE[1], TREE[1])), False)
        self.assertIs(is_closed(("two", TREE[2], TREE[2])), False)
        self.assertIs(is_closed(("two", ("two", LEFT, BOTH_CUT), TREE[2])), False)
        self.assertIs(is_closed(("two", TREE[1], ("two", BOTH_KEPT, RIGHT))), False)

    def test_a_branch_left_out_or_one_more(self):
        for path in ((), (1,), (2,)):
            part = TREE
            for side in path:
                part = part[side]
            for other in (part[:2], part[:1], part + part[1:2], part + (None,), (part[1], part[2]), part[1], part[2], part[1:],
                          list(part), (), (part,), ("two", part), ("two", part[1], None), ("two", None, part[2]), ("two",)):
                with self.subTest(path=path, other=repr(other)[:60]):
                    self.assertIs(is_closed(put_at(TREE, path, other)), False)

    def test_an_end_ahead_of_its_place(self):
        for path in ((), (1,), (2,)):
            for many in (2, 3, 4):
                for at in range(many):
                    multiples = row_of(*[int(at == place) for place in range(many)])
                    self.assertIs(is_closed(put_at(TREE, path, ("most", multiples)), (100, 1)), False)
        # Even where the out is one sum all over the box.
        net = Net(1, [[(row_of(1), (9, 1))], [(row_of(1), (0, 1))]])
        self.assertIs(closes([net], BOX, ONE, (11, 1), ("most", row_of(1, 0))), False)

    def test_a_case_more_than_there_are_hidden_nodes(self):
        for path, end in ends_of(TREE):
            longer = (end[0], end[1] + row_of(0))
            for other in (("two", end, end), ("two", longer, longer), ("two", ("empty", longer[1]), longer)):
                self.assertIs(is_closed(put_at(TREE, path, other)), False)
        # Even where the case has no spot anyhow.
        box = (row_of(2, 3),)
        first, right = ("empty", row_of(0, 1, 1)), ("most", row_of(1, 0, 0, 0))
        end, longer = ("empty", row_of(0, 1, 0, 1)), ("empty", row_of(0, 1, 0, 1, 0))
        self.assertIs(is_closed(("two", first, ("two", right, end)), box=box), True)
        for other in (("two", end, end), ("two", longer, longer), longer):
            self.assertIs(is_closed(("two", first, ("two", right, other)), box=box), False)

    def test_deep_trees(self):
        tree = TREE
        for _ in range(18):
            tree = ("two", tree, TREE)
            self.assertIs(is_closed(tree), False)
        self.assertIs(is_closed(deep_tuple(20)), False)
        self.assertIs(is_closed(("two", deep_tuple(19), deep_list(19))), False)

    def test_any_other_thing(self):
        for thing in strange_things() + not_boxes() + [TREE[1:], list(TREE), [TREE], (TREE,), FAR, [FAR], "two", "most", 5]:
            with self.subTest(thing=repr(thing)[:60]):
                self.assertIs(is_closed(thing), False)
                self.assertIs(is_closed(("two", thing, TREE[2])), False)
                self.assertIs(is_closed(("two", TREE[1], thing)), False)
                self.assertIs(is_closed(("two", ("two", thing, LEFT), TREE[2])), False)

    def test_what_is_handed_in_is_not_changed(self):
        thing = ["two", [1], {"a": [2]}]
        self.assertIs(is_closed(("two", thing, TREE[2])), False)
        self.assertEqual(thing, ["two", [1], {"a": [2]}])

    def test_of_another_question(self):
        self.assertIs(is_closed(TREE, (6, 1), aim=row_of(2)), False)
        self.assertIs(is_closed(TREE, (6, 1), aim=row_of(-1)), False)
        self.assertIs(is_closed(TREE, box=(row_of(-2, 2),)), False)
        self.assertIs(is_closed(TREE, (6, 1), box=(row_of(-2, 2),)), True)
        self.assertIs(is_closed(TREE, nets=(FAR, FAR), aim=row_of(1, 0)), False)
        other = Net(1, [[(row_of(1), (0, 1))], [(row_of(1), (0, 1))]])
        self.assertIs(is_closed(TREE, (9, 1), nets=(other,)), False)


class RefusedTest(unittest.TestCase):
    def test_nets_first(self):
        for nets in not_nets() + strange_things():
            for rest in ((BOX, ONE, (5, 1), TREE), (None, None, None, None), (BOX, None, (5, 1), TREE), (BOX, ONE, None, TREE)):
                with self.subTest(nets=repr(nets)[:60]):
                    self.assertIs(refused(self, NoFit, closes, nets, *rest), nets)

    def test_then_the_box(self):
        for box in not_boxes() + strange_things() + [BOX * 2, BOX * 3]:
            for rest in ((ONE, (5, 1), TREE), (None, None, None), (ONE, None, TREE)):
                self.assertIs(refused(self, NoBox, closes, [FAR], box, *rest), box)

    def test_then_the_aim(self):
        for aim in [list(ONE), ONE + ONE, (1,), ((2, 2),), ONE[0], None, "1"] + strange_things():
            for rest in (((5, 1), TREE), (None, None), (5, TREE)):
                self.assertIs(refused(self, NoAim, closes, [FAR], BOX, aim, *rest), aim)

    def test_then_the_number(self):
        nine = Draws(132).net(1, [4, 4, 1, 1])
        for number in [5, (5,), (10, 2), (5, 0), (5, -1), (True, 1), (5, True), [5, 1], "5", None] + strange_things():
            for nets in ([FAR], [nine]):
                for tree in (TREE, None):
                    with self.subTest(number=repr(number)[:60]):
                        self.assertIs(refused(self, NoNumber, closes, nets, BOX, ONE, number, tree), number)

    def test_then_too_many_hidden_nodes(self):
        draws = Draws(133)
        eight, nine = draws.net(1, [4, 4, 1]), draws.net(1, [4, 4, 1, 1])
        for tree in (TREE, None, deep_tuple(20)):
            self.assertEqual(refused(self, Large, closes, [nine], BOX, ONE, (5, 1), tree), 9)
            self.assertEqual(refused(self, Large, closes, (eight, FAR), BOX, ONE + ONE, (5, 1), tree), 10)
            self.assertIs(closes([eight], BOX, ONE, (5, 1), tree), False)


if __name__ == "__main__":
    unittest.main()
