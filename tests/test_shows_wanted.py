"""Point 94: whether a thing shows what it tells of a wish, of an out, or of wishes."""

import unittest

from noughtcut.nets import Net
from noughtcut.numbers import NOUGHT
from noughtcut.trees import closes
from noughtcut.wanted import above_all, always_holds, find_spot, shows_above, shows_always, shows_found
from tests.test_answers import bent, moved
from tests.test_boxes import not_boxes
from tests.test_wanted import BOX, SAME, holds_at, is_none_tree, lies_in
from tests.things import Draws, as_fraction, come_to, deep_list, deep_tuple, row_of, strange_things
from tests.treeing import ends_of, is_tree, one_net, put_at

# The in cut at nought.
CUT = Net(1, [[(row_of(1), (0, 1))], [(row_of(1), (0, 1))]])
WISH = (row_of(1), (2, 1))
# By hand: cut the out is nought, kept it is the in, which is at most 2.
TREE = ("two", ("most", row_of(0, 0, 0)), ("most", row_of(1, 0, 0)))
# The outs are the in, cut at nought, and the in itself.
PAIR = Net(1, [[(row_of(1), (0, 1)), (row_of(1), (5, 1))], [(row_of(1, 0), (0, 1)), (row_of(0, 1), (-5, 1))]])
# The in less what is cut of it: nought or below; the second node is kept anyhow.
BELOW = ("two", ("two", ("empty", row_of(0, 1, 0, 1)), ("most", row_of(0, 0, 1, 0))),
         ("two", ("empty", row_of(0, 1, 0, 1)), ("most", row_of(0, 0, 0, 0))))
# The out at most -1: never, for it is nought where the in is cut, and kept it is the in, which is not below nought then.
NEVER = [(row_of(1), (-1, 1))]
NONE = ("two", ("against", row_of(0, 0, 0, 1)), ("against", row_of(0, 0, 1, 1)))
# Where the box lies above nought, cut is empty.
RIGHT = (row_of(1, 2),)
RIGHT_NONE = ("two", ("empty", row_of(0, 1, 1)), ("against", row_of(0, 0, 1, 1)))
WORDS = ["", None, True, 0, "True", "False", "truth", "yes", "found", "none", "alike", "unlike", "two", b"true", ["true"], ("true",)]


class AlwaysTest(unittest.TestCase):
    def test_by_hand(self):
        self.assertIs(shows_always(CUT, BOX, WISH, ("true", TREE)), True)
        for number, wanted in (((3, 1), True), ((199, 100), False), ((0, 1), False)):
            self.assertIs(shows_always(CUT, BOX, (row_of(1), number), ("true", TREE)), wanted)
        for at, number, wanted in ((2, (2, 1), False), (2, (199, 100), True), (0, (0, 1), False), (1, (0, 1), True), (-1, (0, 1), False),
                                   (-1, (-1, 9), True), (3, (0, 1), False), ("2001/1000", (0, 1), False), (-2, (-1, 1), False)):
            self.assertIs(shows_always(CUT, BOX, (row_of(1), number), ("false", row_of(at))), wanted)

    def test_trees_that_are_bent(self):
        for path, (word, row) in ends_of(TREE):
            for at in range(len(row)):
                for by in (1, -1, as_fraction((1, 1000))):
                    other = put_at(TREE, path, (word, moved(row, at, by)))
                    self.assertIs(shows_always(CUT, BOX, WISH, ("true", other)), is_tree([CUT], BOX, *WISH, other))
            for thing in bent(row) + strange_things():
                self.assertIs(shows_always(CUT, BOX, WISH, ("true", put_at(TREE, path, (word, thing)))), False)
            for other in ("empty", "against", "same", "none", "piece", "", None, True):
                self.assertIs(shows_always(CUT, BOX, WISH, ("true", put_at(TREE, path, (other, row)))), False)
        for tree in (TREE[1], TREE[2], TREE[:2], TREE + (TREE[1],), list(TREE), ("two", TREE[2], TREE[1]), ("two", TREE, TREE), (TREE,),
                     deep_tuple(18), deep_list(18)):
            self.assertIs(shows_always(CUT, BOX, WISH, ("true", tree)), False)

    def test_spots_that_are_bent(self):
        small = (row_of(1), (0, 1))
        self.assertIs(shows_always(CUT, BOX, small, ("false", row_of(1))), True)
        for thing in bent(row_of(1)) + strange_things() + [row_of(1, 1), TREE]:
            self.assertIs(shows_always(CUT, BOX, small, ("false", thing)), False)

    def test_of_another_wish_or_the_other_kind(self):
        for wish in ((row_of(2), (3, 1)), (row_of(-1), (-1, 1)), (row_of(1), (1, 1))):
            told = always_holds(CUT, BOX, wish)
            self.assertEqual(told[0], "false")
            self.assertIs(shows_always(CUT, BOX, wish, told), True)
            self.assertIs(shows_always(CUT, BOX, wish, ("true", TREE)), False)
            self.assertIs(shows_always(CUT, BOX, WISH, told), False)
            self.assertIs(shows_always(CUT, BOX, wish, ("true", told[1])), False)
        self.assertIs(shows_always(CUT, BOX, WISH, ("false", TREE)), False)

    def test_any_other_thing(self):
        things = [TREE, ("true",), ("false",), ["true", TREE], ("true", TREE, TREE), (TREE, "true"), "true", row_of(1),
                  ("false", row_of(1), row_of(1)), ("true", ())]
        for thing in things + strange_things() + not_boxes():
            with self.subTest(thing=repr(thing)[:60]):
                self.assertIs(shows_always(CUT, BOX, WISH, thing), False)
                self.assertIs(shows_always(CUT, BOX, (row_of(1), (0, 1)), thing), False)
                self.assertIs(shows_always(CUT, BOX, WISH, ("true", thing)), thing == TREE)
        for word in WORDS + ["false"]:
            self.assertIs(shows_always(CUT, BOX, WISH, (word, TREE)), False)
        for word in WORDS + ["true"]:
            self.assertIs(shows_always(CUT, BOX, (row_of(1), (0, 1)), (word, row_of(1))), False)

    def test_drawn_spots(self):
        draws = Draws(291)
        for at in range(9):
            net = one_net(draws, 2, at)
            box = draws.box(2)
            wish = draws.node(net.outs())
            for spot in [draws.spot(box) for _ in range(6)] + [draws.row(2) for _ in range(6)]:
                wanted = lies_in(box, spot) and not holds_at(net, wish, spot)
                self.assertIs(shows_always(net, box, wish, ("false", spot)), wanted)


class AboveTest(unittest.TestCase):
    def test_by_hand(self):
        self.assertIs(closes([PAIR], BOX, row_of(-1, 1), NOUGHT, BELOW), True)
        self.assertIs(shows_above(PAIR, BOX, 0, ("true", (BELOW,))), True)
        self.assertIs(shows_above(PAIR, BOX, 1, ("true", (BELOW,))), False)
        for at, wanted in ((-1, True), ("-1/100", True), (0, False), (2, False), ("-1001/1000", False)):
            self.assertIs(shows_above(PAIR, BOX, 1, ("false", 0, row_of(at))), wanted)
            self.assertIs(shows_above(PAIR, BOX, 0, ("false", 1, row_of(at))), False)
            self.assertIs(shows_above(PAIR, BOX, 1, ("false", 1, row_of(at))), False)

    def test_trees_for_each_other_out_in_order(self):
        told = above_all(SAME, BOX, 2)
        self.assertIs(shows_above(SAME, BOX, 2, told), True)
        trees = told[1]
        for other in ((trees[1],), (trees[0],), (), trees + trees[:1], list(trees), trees[0], None, (trees[0], None), (None, trees[1])):
            self.assertIs(shows_above(SAME, BOX, 2, ("true", other)), False)
        net = Net(1, [[(row_of(0), (0, 1)), (row_of(1), (-2, 1)), (row_of(0), (-3, 1))]])
        good = (("most", row_of(1, 0)), ("most", row_of(0, 0)))
        self.assertIs(shows_above(net, BOX, 0, ("true", good)), True)
        self.assertIs(shows_above(net, BOX, 0, ("true", good[::-1])), False)
        self.assertEqual(above_all(net, BOX, 0), ("true", good))

    def test_trees_that_are_bent(self):
        for path, (word, row) in ends_of(BELOW):
            for at in range(len(row)):
                for by in (1, -1, as_fraction((1, 1000))):
                    other = put_at(BELOW, path, (word, moved(row, at, by)))
                    wanted = is_tree([PAIR], BOX, row_of(-1, 1), NOUGHT, other)
                    self.assertIs(shows_above(PAIR, BOX, 0, ("true", (other,))), wanted)
            for thing in bent(row) + strange_things():
                self.assertIs(shows_above(PAIR, BOX, 0, ("true", (put_at(BELOW, path, (word, thing)),))), False)
        for tree in (BELOW[1], BELOW[:2], BELOW + BELOW[1:2], list(BELOW), ("two", BELOW[2], BELOW[1]), (BELOW,), deep_tuple(17), TREE):
            self.assertIs(shows_above(PAIR, BOX, 0, ("true", (tree,))), False)

    def test_outs_and_spots_that_are_bent(self):
        self.assertIs(shows_above(PAIR, BOX, 1, ("false", 0, row_of(-1))), True)
        for other in (1, 2, -1, -2, True, False, "0", None, (0,), [0], (0, 1)):
            self.assertIs(shows_above(PAIR, BOX, 1, ("false", other, row_of(-1))), False)
        for thing in strange_things():
            self.assertIs(shows_above(PAIR, BOX, 1, ("false", thing, row_of(-1))), False)
            self.assertIs(shows_above(PAIR, BOX, 1, ("false", 0, thing)), False)
        for thing in bent(row_of(-1)):
            self.assertIs(shows_above(PAIR, BOX, 1, ("false", 0, thing)), False)

    def test_one_out(self):
        self.assertIs(shows_above(CUT, BOX, 0, ("true", ())), True)
        for thing in (("true", []), ("true", (TREE,)), ("true", None), ("true",), ("false", 0, row_of(0)), ("false", 0, row_of(2))):
            self.assertIs(shows_above(CUT, BOX, 0, thing), False)

    def test_any_other_thing(self):
        things = [BELOW, (BELOW,), ("true", BELOW), ["true", (BELOW,)], ("true", (BELOW,), 0), "true", ("false", row_of(-1), 0),
                  ("false", 0), ["false", 0, row_of(-1)], ("false", row_of(-1)), ("false", 0, row_of(-1), 0), (0, row_of(-1))]
        for thing in things + strange_things() + not_boxes():
            with self.subTest(thing=repr(thing)[:60]):
                for out in (0, 1):
                    self.assertIs(shows_above(PAIR, BOX, out, thing), False)
                    self.assertIs(shows_above(PAIR, BOX, out, ("true", thing)), thing == (BELOW,) and out == 0)
                    self.assertIs(shows_above(PAIR, BOX, out, ("true", (thing,))), thing == BELOW and out == 0)
        for word in WORDS + ["false"]:
            self.assertIs(shows_above(PAIR, BOX, 0, (word, (BELOW,))), False)
        for word in WORDS + ["true"]:
            self.assertIs(shows_above(PAIR, BOX, 1, (word, 0, row_of(-1))), False)

    def test_drawn_spots(self):
        draws = Draws(292)
        for at in range(9):
            net = one_net(draws, 2, at)
            box = draws.box(2)
            for spot in [draws.spot(box) for _ in range(4)] + [draws.row(2) for _ in range(4)]:
                outs = come_to(net, spot)[-1]
                for out in range(net.outs()):
                    for other in range(net.outs()):
                        wanted = lies_in(box, spot) and outs[other] > outs[out]
                        self.assertIs(shows_above(net, box, out, ("false", other, spot)), wanted)


class FoundTest(unittest.TestCase):
    def test_by_hand(self):
        self.assertTrue(is_none_tree(CUT, BOX, NEVER, NONE))
        self.assertIs(shows_found(CUT, BOX, NEVER, ("none", NONE)), True)
        self.assertIs(shows_found(CUT, BOX, tuple(NEVER), ("none", NONE)), True)
        self.assertIs(shows_found(CUT, RIGHT, NEVER, ("none", RIGHT_NONE)), True)
        self.assertIs(shows_found(CUT, RIGHT, NEVER, ("none", NONE)), True)
        self.assertIs(shows_found(CUT, BOX, NEVER, ("none", RIGHT_NONE)), False)
        for at, wanted in ((0, True), (-1, True), ("1/2", True), ("501/1000", False), (2, False), ("-1001/1000", False)):
            self.assertIs(shows_found(CUT, BOX, [(row_of(2), (1, 1))], ("found", row_of(at))), wanted)
            self.assertIs(shows_found(CUT, BOX, [(row_of(2), (1, 1)), (row_of(0), (-1, 1))], ("found", row_of(at))), False)
        for at, wanted in ((0, True), (2, True), (-1, True), (3, False), (-2, False)):
            self.assertIs(shows_found(CUT, BOX, [], ("found", row_of(at))), wanted)

    def test_just_nought_is_not_enough(self):
        wishes = [(row_of(1), (0, 1))]
        self.assertIs(shows_found(CUT, BOX, wishes, ("none", NONE)), False)
        self.assertIs(shows_found(CUT, BOX, [(row_of(1), (-1, 10 ** 30))], ("none", NONE)), True)
        self.assertIs(shows_found(CUT, BOX, [], ("none", ("two", ("against", row_of(0, 0, 0)), ("against", row_of(0, 0, 0))))), False)

    def test_which_of_the_wishes(self):
        two = NEVER + [(row_of(-1), (9, 1))]
        tree = ("two", ("against", row_of(0, 0, 0, 1, 0)), ("against", row_of(0, 0, 1, 1, 0)))
        self.assertIs(shows_found(CUT, BOX, two, ("none", tree)), True)
        self.assertIs(shows_found(CUT, BOX, two[::-1], ("none", tree)), False)
        self.assertIs(shows_found(CUT, BOX, two, ("none", NONE)), False)
        self.assertIs(shows_found(CUT, BOX, NEVER, ("none", tree)), False)
        # Both together: the out is at most 1, and at least 2.
        both = [(row_of(1), (1, 1)), (row_of(-1), (-2, 1))]
        tree = ("two", ("against", row_of(0, 0, 0, 0, 1)), ("against", row_of(0, 0, 0, 1, 1)))
        self.assertIs(shows_found(CUT, BOX, both, ("none", tree)), True)
        self.assertIs(shows_found(CUT, BOX, both, ("none", put_at(tree, (2,), ("against", row_of(0, 0, 0, 0, 1))))), False)

    def test_numbers_of_the_outs_count(self):
        net = Net(1, [[(row_of(1), (0, 1))], [(row_of(1), (3, 1))]])
        tree = ("two", ("against", row_of(0, 0, 0, 1)), ("against", row_of(0, 0, 1, 1)))
        self.assertIs(shows_found(net, BOX, [(row_of(1), (2, 1))], ("none", tree)), True)
        self.assertIs(shows_found(net, BOX, [(row_of(1), (3, 1))], ("none", tree)), False)
        self.assertIs(shows_found(net, BOX, [(row_of(1), (3, 1))], ("found", row_of(0))), True)

    def test_trees_that_are_bent(self):
        for tree, box in ((NONE, BOX), (RIGHT_NONE, RIGHT)):
            for path, (word, row) in ends_of(tree):
                for at in range(len(row)):
                    for by in (1, -1, as_fraction((1, 1000)), as_fraction((-1, 1000))):
                        other = put_at(tree, path, (word, moved(row, at, by)))
                        self.assertIs(shows_found(CUT, box, NEVER, ("none", other)), is_none_tree(CUT, box, NEVER, other))
                for thing in bent(row) + strange_things():
                    self.assertIs(shows_found(CUT, box, NEVER, ("none", put_at(tree, path, (word, thing)))), False)
                for other in ("most", "same", "none", "piece", "Against", "", None, True, "empty" if word == "against" else "against"):
                    self.assertIs(shows_found(CUT, box, NEVER, ("none", put_at(tree, path, (other, row)))), False)
                self.assertIs(shows_found(CUT, box, NEVER, ("none", put_at(tree, path, [word, row]))), False)
        for tree in (NONE[1], NONE[2], NONE[:2], NONE + NONE[1:2], list(NONE), ("two", NONE[2], NONE[1]), ("two", NONE, NONE), (NONE,),
                     ("two", NONE[1], NONE[1]), ("two",) + NONE[2:], deep_tuple(18), deep_list(18), TREE):
            self.assertIs(shows_found(CUT, BOX, NEVER, ("none", tree)), False)

    def test_an_end_ahead_of_its_place(self):
        # No node is taken at all, and the out is nought.
        flat = Net(1, [[(row_of(1), (0, 1))], [(row_of(0), (0, 1))]])
        end = ("against", row_of(0, 0, 0, 1))
        self.assertIs(shows_found(flat, BOX, NEVER, ("none", ("two", end, end))), True)
        self.assertIs(shows_found(flat, BOX, NEVER, ("none", ("against", row_of(0, 0, 1)))), False)
        self.assertIs(shows_found(flat, BOX, NEVER, ("none", ("two", ("two", end, end), end))), False)

    def test_of_other_wishes_or_the_other_kind(self):
        for wishes in ([(row_of(1), (0, 1))], [(row_of(-1), (-1, 1))], []):
            told = find_spot(CUT, BOX, wishes)
            self.assertEqual(told[0], "found")
            self.assertIs(shows_found(CUT, BOX, wishes, told), True)
            self.assertIs(shows_found(CUT, BOX, NEVER, told), False)
            self.assertIs(shows_found(CUT, BOX, wishes, ("none", NONE)), False)
            self.assertIs(shows_found(CUT, BOX, wishes, ("none", told[1])), False)
        self.assertIs(shows_found(CUT, BOX, NEVER, ("found", NONE)), False)

    def test_any_other_thing(self):
        some = [(row_of(1), (0, 1))]
        things = [NONE, ("none",), ("found",), ["none", NONE], ["found", row_of(0)], ("none", NONE, NONE),
                  ("found", row_of(0), row_of(0)), (NONE, "none"), row_of(0), "none", "found"]
        for thing in things + strange_things() + not_boxes():
            with self.subTest(thing=repr(thing)[:60]):
                for wishes in (NEVER, some, []):
                    self.assertIs(shows_found(CUT, BOX, wishes, thing), False)
                    self.assertIs(shows_found(CUT, BOX, wishes, ("none", thing)), wishes == NEVER and thing == NONE)
        for thing in bent(row_of(0)) + strange_things():
            self.assertIs(shows_found(CUT, BOX, some, ("found", thing)), False)
        for word in [one for one in WORDS if one not in ("found", "none")] + ["true", "false"]:
            self.assertIs(shows_found(CUT, BOX, NEVER, (word, NONE)), False)
            self.assertIs(shows_found(CUT, BOX, some, (word, row_of(0))), False)

    def test_drawn_spots(self):
        draws = Draws(293)
        for at in range(9):
            net = one_net(draws, 2, at)
            box = draws.box(2)
            wishes = [draws.node(net.outs()) for _ in range(1 + at % 3)]
            for spot in [draws.spot(box) for _ in range(6)] + [draws.row(2) for _ in range(6)]:
                wanted = lies_in(box, spot) and all(holds_at(net, wish, spot) for wish in wishes)
                self.assertIs(shows_found(net, box, wishes, ("found", spot)), wanted)


if __name__ == "__main__":
    unittest.main()
