"""Points 72 and 73: whether a thing shows how two nets are within a box."""

import unittest

from noughtcut.alike import shows_alike, told_alike
from noughtcut.nets import Net, with_weight
from noughtcut.numbers import minus, plus
from tests.test_alike import is_alike_tree
from tests.test_answers import bent, moved
from tests.things import Draws, as_fraction, deep_list, deep_tuple, row_of, strange_things
from tests.treeing import ends_of, one_net, put_at

# The in cut at nought, and the same told by twice the in; beside it an out that is the in itself.
ONE = Net(1, [[(row_of(1), (0, 1))], [(row_of(1), (0, 1))]])
TWO = Net(1, [[(row_of(2), (0, 1))], [(row_of("1/2"), (0, 1))]])
BOX = (row_of(-1, 2),)
NONE = row_of(0, 0, 0, 0)
# By hand: both cut or both kept there is no difference; else the in itself, the one way and the other.
BOTH_CUT = ("same", ((NONE, NONE),))
ONE_KEPT = ("same", ((row_of(0, 0, 0, "1/2"), row_of(0, 0, 1, 0)),))
TREE = ("two", ("two", BOTH_CUT, ONE_KEPT), ("two", ONE_KEPT, BOTH_CUT))
# The same two nets where the in is above nought: cut is empty.
RIGHT = (row_of(1, 2),)
EMPTY = ("empty", row_of(0, 1, 1))
RIGHT_TREE = ("two", EMPTY, ("two", ("empty", row_of(0, 2, 0, 1)), BOTH_CUT))
# Nets with two outs that come to the same, and a tree of one end.
FLAT = Net(1, [[(row_of(1), (0, 1)), (row_of(2), (1, 1))]])
NOTHING = Net(1, [[(row_of(0), (0, 1))]])
FLAT_TREE = ("same", ((row_of(0, 0), row_of(0, 0)), (row_of(0, 0), row_of(0, 0))))


def shown(tree, one=ONE, other=TWO, box=BOX):
    """Whether a tree shows that two nets are alike."""
    return shows_alike(one, other, box, ("alike", tree))


class TreeTest(unittest.TestCase):
    def test_by_hand(self):
        self.assertIs(shown(TREE), True)
        self.assertTrue(is_alike_tree(ONE, TWO, BOX, TREE))
        self.assertIs(shown(RIGHT_TREE, box=RIGHT), True)
        self.assertIs(shown(FLAT_TREE, FLAT, FLAT), True)
        self.assertIs(shown(TREE, box=RIGHT), True)
        self.assertIs(shown(RIGHT_TREE), False)
        self.assertIs(shown(TREE, TWO, ONE), False)

    def test_of_other_nets(self):
        for other in (ONE, Net(1, [[(row_of(2), (0, 1))], [(row_of(1), (0, 1))]]),
                      Net(1, [[(row_of(2), (0, 1))], [(row_of("1/2"), (1, 10 ** 9))]])):
            self.assertIs(shown(TREE, other=other), other is ONE and is_alike_tree(ONE, ONE, BOX, TREE))
        moved_out = Net(1, [[(row_of(1), (0, 1)), (row_of(2), (-1, 10 ** 9))]])
        self.assertIs(shown(FLAT_TREE, FLAT, FLAT), True)
        self.assertIs(shown(FLAT_TREE, FLAT, moved_out), False)
        self.assertIs(shown(FLAT_TREE, moved_out, FLAT), False)

    def test_more_by_the_one_and_less_by_the_other(self):
        # Multiples that come to too much for the one side only.
        self.assertIs(shown(("same", ((row_of(1, 1), row_of(0, 0)),) * 2), FLAT, FLAT, (row_of(1, 1),)), True)
        self.assertIs(shown(("same", ((row_of(1, 1), row_of(0, 0)),) * 2), FLAT, FLAT, (row_of(1, 2),)), False)
        self.assertIs(shown(("same", ((row_of(0, 0), row_of(1, 1)),) * 2), FLAT, FLAT, (row_of(1, 2),)), False)

    def test_multiples_that_are_bent(self):
        for tree, box in ((TREE, BOX), (RIGHT_TREE, RIGHT)):
            for path, (word, told) in ends_of(tree):
                rows = told[0] if word == "same" else (told,)
                for side, row in enumerate(rows):
                    for at in range(len(row)):
                        for by in (1, -1, as_fraction((1, 1000)), as_fraction((-1, 1000))):
                            new = self.with_row(word, told, side, moved(row, at, by))
                            wanted = is_alike_tree(ONE, TWO, box, put_at(tree, path, (word, new)))
                            self.assertIs(shown(put_at(tree, path, (word, new)), box=box), wanted)
                            if row[at][0] == 0 and by < 0:
                                self.assertIs(wanted, False)
                    for thing in bent(row) + strange_things():
                        new = self.with_row(word, told, side, thing)
                        self.assertIs(shown(put_at(tree, path, (word, new)), box=box), False)

    def with_row(self, word, told, side, row):
        """What an end has, with another row."""
        if word == "empty":
            return row
        return (told[0][:side] + (row,) + told[0][side + 1:],)

    def test_multiples_below_nought(self):
        net = Net(1, [[(row_of(1), (0, 1))]])
        point = (row_of(1, 1),)
        flat = Net(1, [[(row_of(0), (1, 1))]])
        self.assertIs(shown(("same", ((row_of(1, 0), row_of(0, 1)),)), net, flat, point), True)
        self.assertIs(shown(("same", ((row_of(0, -1), row_of(0, 1)),)), net, flat, point), False)
        self.assertIs(shown(("same", ((row_of(1, 0), row_of(-1, 0)),)), net, flat, point), False)
        # Just nought is near enough, more is not.
        self.assertIs(shown(("same", ((row_of(1, 0), row_of(0, 1)),)), net, flat, (row_of(1, "11/10"),)), False)
        self.assertIs(shown(("same", ((row_of(1, 0), row_of(0, 1)),)), net, flat, (row_of("9/10", 1),)), False)

    def test_one_row_of_the_two_or_rows_exchanged(self):
        first, second = ONE_KEPT[1][0]
        for pair in ((first,), (second,), (first, first), (second, second), (second, first), (first, second, second), first, (),
                     [first, second], first + second, {0: first, 1: second}, None):
            with self.subTest(pair=repr(pair)[:60]):
                self.assertIs(shown(put_at(TREE, (1, 2), ("same", (pair,)))), False)
        self.assertIs(shown(put_at(TREE, (1, 2), ("same", ((first, second),)))), True)

    def test_an_out_too_many_or_too_few(self):
        pair = (NONE, NONE)
        for rows in ((), (pair, pair), pair, (pair, None), (None, pair), [pair], None, NONE, pair[0], {0: pair}, "same", 0, True):
            self.assertIs(shown(put_at(TREE, (1, 1), ("same", rows))), False)
        two = FLAT_TREE[1]
        for rows in (two[:1], two + two[:1], list(two), (), (two[0], two[1][:1]), (two,), two[0], (list(two[0]), two[1])):
            self.assertIs(shown(("same", rows), FLAT, FLAT), False)

    def test_another_word(self):
        words = ["sames", "Same", "most", "none", "piece", "against", "two", "", None, 0, True, b"same", ["same"], ("same",), {}]
        for path, (word, told) in ends_of(RIGHT_TREE):
            for other in words + ["same" if word == "empty" else "empty"]:
                self.assertIs(shown(put_at(RIGHT_TREE, path, (other, told)), box=RIGHT), False)
            self.assertIs(shown(put_at(RIGHT_TREE, path, [word, told]), box=RIGHT), False)
        for other in ["empty", "same", "twos", "Two", "", None, 2, True, ["two"]]:
            self.assertIs(shown((other,) + TREE[1:]), False)
            self.assertIs(shown(put_at(TREE, (1,), (other,) + TREE[1][1:])), False)
        for other in ["unlike", "Alike", "like", "", None, True, 0, ["alike"], ("alike",)]:
            self.assertIs(shows_alike(ONE, TWO, BOX, (other, TREE)), False)

    def test_sides_exchanged(self):
        self.assertIs(shown(("two", RIGHT_TREE[2], RIGHT_TREE[1]), box=RIGHT), False)
        self.assertIs(shown(("two", RIGHT_TREE[1], RIGHT_TREE[1]), box=RIGHT), False)
        self.assertIs(shown(("two", EMPTY, ("two", BOTH_CUT, RIGHT_TREE[2][1])), box=RIGHT), False)
        self.assertIs(shown(("two", ("two", ONE_KEPT, BOTH_CUT), TREE[2])), False)

    def test_a_branch_left_out_or_one_more(self):
        for path in ((), (1,), (2,)):
            part = TREE
            for side in path:
                part = part[side]
            for other in (part[:2], part[:1], part + part[1:2], part + (None,), part[1:], part[1], list(part), (), (part,),
                          ("two", part), ("two", part[1], None), ("two", None, part[2]), ("two",)):
                if other != BOTH_CUT or path != (2,):
                    with self.subTest(path=path, other=repr(other)[:60]):
                        self.assertIs(shown(put_at(TREE, path, other)), False)

    def test_an_end_ahead_of_its_place(self):
        for path in ((), (1,), (2,)):
            for many in (2, 3, 4):
                row = row_of(*[0] * many)
                self.assertIs(shown(put_at(TREE, path, ("same", ((row, row),)))), False)
        # Even where both nets are the same in the whole case.
        net = Net(1, [[(row_of(0), (1, 1))], [(row_of(1), (0, 1))]])
        flat = Net(1, [[(row_of(0), (1, 1))]])
        kept = ("same", ((row_of(0, 0, 0), row_of(0, 0, 0)),))
        self.assertIs(shown(("two", ("empty", row_of(0, 0, 1)), kept), net, flat), True)
        self.assertIs(shown(("same", ((row_of(0, 0), row_of(0, 0)),)), net, flat), False)

    def test_a_case_more_than_there_are_hidden_nodes(self):
        longer = ("same", ((NONE + row_of(0),) * 2,))
        for end in (BOTH_CUT, longer, ("empty", row_of(0, 2, 0, 1, 0))):
            self.assertIs(shown(put_at(TREE, (1, 1), ("two", end, end))), False)
            self.assertIs(shown(put_at(RIGHT_TREE, (2, 1), ("two", end, end)), box=RIGHT), False)
        self.assertIs(shown(("two", FLAT_TREE, FLAT_TREE), FLAT, FLAT), False)

    def test_an_empty_end_anywhere(self):
        # Where it isn't needed, too: its multiples may be those of an end of all nodes.
        tree = ("two", ("two", ("empty", row_of(0, 1, 1, 0)), ("empty", row_of(0, 1, 1, 0))), RIGHT_TREE[2])
        self.assertIs(shown(tree, box=RIGHT), True)
        self.assertIs(shown(EMPTY, box=RIGHT), False)
        self.assertIs(shown(put_at(RIGHT_TREE, (1,), ("empty", row_of(0, 1, 1, 0))), box=RIGHT), False)
        # The rows come to noughts and the numbers to just nought.
        self.assertIs(shown(RIGHT_TREE, box=(row_of(0, 2),)), False)
        self.assertIs(shown(put_at(RIGHT_TREE, (1,), ("empty", row_of(0, 0, 0))), box=RIGHT), False)

    def test_deep_trees(self):
        tree = TREE
        for _ in range(17):
            tree = ("two", tree, TREE)
            self.assertIs(shown(tree), False)
        self.assertIs(shown(deep_tuple(18)), False)
        self.assertIs(shown(("two", deep_tuple(17), deep_list(17))), False)


class UnlikeTest(unittest.TestCase):
    def unlike(self, out, spot, one=FLAT, other=None, box=BOX):
        """Whether it is shown that an out isn't the same at a spot."""
        return shows_alike(one, other or Net(1, [[(row_of(1), (0, 1)), (row_of(2), (2, 1))]]), box, ("unlike", out, spot))

    def test_by_hand(self):
        for at in (-1, 0, 2, "1/3"):
            self.assertIs(self.unlike(1, row_of(at)), True)
            self.assertIs(self.unlike(0, row_of(at)), False)

    def test_spots_beyond_the_box_or_none(self):
        for spot in (row_of(3), row_of("-1001/1000"), row_of(0, 0), (), (0,), [(0, 1)], (0, 1), ((0, 2),), ((True, 1),), None, 0):
            self.assertIs(self.unlike(1, spot), False)
        for thing in strange_things():
            self.assertIs(self.unlike(1, thing), False)

    def test_outs_that_are_none(self):
        for out in (2, 3, -1, -2, True, False, "1", None, (1,), [1], (1, 1), 10 ** 400 - 1):
            self.assertIs(self.unlike(out, row_of(0)), False)
        for thing in strange_things():
            self.assertIs(self.unlike(thing, row_of(0)), False)

    def test_where_just_one_spot_is_not_the_same(self):
        other = Net(1, [[(row_of(1), (-1, 1))], [(row_of(1), (0, 1))]])
        flat = Net(1, [[(row_of(0), (0, 1))]])
        for at, wanted in ((1, False), (0, False), ("1001/1000", True), (2, True)):
            self.assertIs(self.unlike(0, row_of(at), other, flat), wanted)
            self.assertIs(self.unlike(0, row_of(at), flat, other), wanted)

    def test_by_drawn_spots(self):
        draws = Draws(211)
        seen = {True: 0, False: 0}
        for hidden in range(9):
            net = one_net(draws, 2, hidden // 2)
            other = with_weight(net, len(net.layers_told()) - 1, 0, 0, draws.number())
            box = draws.box(2)
            for _ in range(6):
                spot = draws.spot(box)
                for out in range(net.outs()):
                    wanted = net.outs_at(spot)[out] != other.outs_at(spot)[out]
                    seen[wanted] += 1
                    self.assertIs(shows_alike(net, other, box, ("unlike", out, spot)), wanted)
                    beyond = tuple(plus(high, minus(high, low)) if low != high else plus(high, (1, 1)) for low, high in box)
                    self.assertIs(shows_alike(net, other, box, ("unlike", out, beyond)), False)
        self.assertGreater(min(seen.values()), 3)

    def test_the_other_kind(self):
        self.assertIs(shows_alike(ONE, TWO, BOX, told_alike(ONE, NOTHING, BOX)), False)
        self.assertIs(shows_alike(ONE, NOTHING, BOX, told_alike(ONE, NOTHING, BOX)), True)
        self.assertIs(shows_alike(ONE, NOTHING, BOX, told_alike(ONE, TWO, BOX)), False)
        self.assertIs(shows_alike(ONE, TWO, BOX, told_alike(ONE, TWO, BOX)), True)
        for thing in (("alike", 0, row_of(0)), ("unlike", TREE), ("alike", TREE, TREE), ("alike",), ("unlike",), ("unlike", 0),
                      ("alike", 0), ["alike", TREE], ["unlike", 0, row_of(2)], ("unlike", row_of(2), 0), ("unlike", 0, row_of(2), 0)):
            self.assertIs(shows_alike(ONE, TWO, BOX, thing), False)
            self.assertIs(shows_alike(ONE, NOTHING, BOX, thing), False)

    def test_other_words(self):
        self.assertIs(shows_alike(ONE, NOTHING, BOX, ("unlike", 0, row_of(2))), True)
        for word in ("alike", "Unlike", "false", "", None, True, 0, ["unlike"], ("unlike",), b"unlike"):
            self.assertIs(shows_alike(ONE, NOTHING, BOX, (word, 0, row_of(2))), False)

    def test_any_other_thing(self):
        for thing in [TREE, TREE[1], BOTH_CUT, [TREE], (TREE,)]:
            self.assertIs(shows_alike(ONE, TWO, BOX, thing), False)
        for thing in strange_things() + [(TREE,), [TREE], FLAT, "alike", "unlike", 2, ONE, TREE[2][2]]:
            with self.subTest(thing=repr(thing)[:60]):
                self.assertIs(shows_alike(ONE, TWO, BOX, thing), False)
                self.assertIs(shown(thing), False)
                self.assertIs(shown(("two", thing, TREE[2])), False)
                self.assertIs(shown(("two", TREE[1], ("two", thing, BOTH_CUT))), False)


if __name__ == "__main__":
    unittest.main()
