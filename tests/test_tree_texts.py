"""Points 104 to 106: trees as texts, written and read."""

import time
import unittest

from noughtcut.alike import told_alike
from noughtcut.errors import NoText, NoTree
from noughtcut.pieces import cover_of
from noughtcut.trees import greatest_at
from noughtcut.treetext import read_tree, show_tree
from noughtcut.wanted import find_spot
from tests.test_answers import bent
from tests.things import Draws, deep_list, deep_tuple, refused, row_of, some_numbers, strange_things
from tests.treeing import one_net

WORDS = ("empty", "most", "none", "piece", "against")
LEAF = ("most", row_of(1, "-1/2"))
SAME = ("same", ((row_of(1, 0), row_of("1/2", 3)), (row_of(0, 0), row_of(1, 1))))
SECONDS = 10


def within(tree, twos):
    """A tree within so many twos."""
    for at in range(twos):
        tree = ("two", tree, LEAF) if at % 2 else ("two", LEAF, tree)
    return tree


def drawn_tree(draws, twos):
    """A tree with at most so many twos within one another."""
    if twos and draws.below(5):
        return ("two", drawn_tree(draws, twos - 1), drawn_tree(draws, twos - 1))
    word = draws.one_of(WORDS + ("same",))
    if word == "same":
        return (word, tuple((draws.row(1 + draws.below(22)), draws.row(1 + draws.below(22))) for _ in range(1 + draws.below(4))))
    return (word, draws.row(1 + draws.below(22)))


def not_rows():
    """Things that are no row of one to twenty-two fractions."""
    return bent(row_of(1, "2/3"))[:1] + [
        (), row_of(*range(23)), row_of(*range(40)), [(1, 1)], ((1, 1), [1, 1]), ((2, 2),), ((1, 0),), ((1, -1),), ((0, 2),), ((True, 1),),
        ((1, True),), (1,), (1, 1), ("1",), ("1", "2"), "1", "", None, 0, True, {}, {0: (1, 1)}, ((1, 1), None), (((1, 1),),), LEAF,
    ]


class ShowTest(unittest.TestCase):
    def test_by_hand(self):
        self.assertEqual(show_tree(LEAF), "most 1 -1/2")
        self.assertEqual(show_tree(SAME), "same 1 0 | 1/2 3 ; 0 0 | 1 1")
        self.assertEqual(show_tree(("same", ((row_of(0), row_of(-7)),))), "same 0 | -7")
        self.assertEqual(show_tree(("two", LEAF, ("none", row_of(0)))), "two\nmost 1 -1/2\nnone 0")
        tree = ("two", ("two", ("empty", row_of(1)), SAME), ("two", ("piece", row_of(2, 3)), ("against", row_of("22/7"))))
        self.assertEqual(show_tree(tree), "two\ntwo\nempty 1\nsame 1 0 | 1/2 3 ; 0 0 | 1 1\ntwo\npiece 2 3\nagainst 22/7")
        for word in WORDS:
            self.assertEqual(show_tree((word, row_of(*range(22)))), word + " " + " ".join(str(at) for at in range(22)))
            self.assertEqual(show_tree((word, row_of(5))), word + " 5")

    def test_twos_within_one_another(self):
        for twos in range(9):
            for end in (LEAF, SAME, ("none", row_of(1))):
                self.assertEqual(len(show_tree(within(end, twos)).split("\n")), 1 + 2 * twos)
        for twos in range(9, 18):
            tree = within(LEAF, twos)
            self.assertIs(refused(self, NoTree, show_tree, tree), tree)
        left = right = LEAF
        for _ in range(9):
            left, right = ("two", left, LEAF), ("two", LEAF, right)
        for tree in (left, right):
            self.assertIs(refused(self, NoTree, show_tree, tree), tree)
            self.assertEqual(len(show_tree(tree[1] if tree is left else tree[2]).split("\n")), 17)

    def test_what_is_no_tree(self):
        for tree in strange_things() + [LEAF[1], "most", ("two",), ("two", LEAF), ("two", LEAF, LEAF, LEAF), ("most",), ("same",),
                                        ("most", row_of(1), row_of(1)), ["most", row_of(1)], ["two", LEAF, LEAF], ("two", LEAF, None),
                                        ("two", [*LEAF], LEAF), ("two", (LEAF, LEAF)), (LEAF, "two", LEAF), ("true", LEAF), "most 1",
                                        deep_tuple(20), deep_list(20), ("two", deep_tuple(19), LEAF)]:
            with self.subTest(tree=repr(tree)[:60]):
                self.assertIs(refused(self, NoTree, show_tree, tree), tree)
                for more in (("two", tree, LEAF), ("two", LEAF, tree), ("two", LEAF, ("two", tree, SAME))):
                    self.assertIs(refused(self, NoTree, show_tree, more), more)

    def test_other_words(self):
        for word in ("Most", "mosts", "", "two", "same", "no", None, True, 0, b"most", ["most"], ("most",), {}, "found", "alike", "true"):
            tree = (word, row_of(1))
            self.assertIs(refused(self, NoTree, show_tree, tree), tree)
        for word in WORDS + ("Two", "", None, 2, True, ["two"], "same"):
            tree = (word, LEAF, LEAF)
            self.assertIs(refused(self, NoTree, show_tree, tree), tree)

    def test_rows_that_are_none(self):
        for row in not_rows() + strange_things():
            for word in WORDS:
                tree = (word, row)
                with self.subTest(tree=repr(tree)[:60]):
                    self.assertIs(refused(self, NoTree, show_tree, tree), tree)
            for pair in ((row, row_of(1)), (row_of(1), row)):
                tree = ("same", (pair,))
                self.assertIs(refused(self, NoTree, show_tree, tree), tree)

    def test_pairs_that_are_none(self):
        pair = (row_of(1), row_of(2))
        for many in (1, 2, 3, 4):
            self.assertEqual(show_tree(("same", (pair,) * many)), "same " + " ; ".join(["1 | 2"] * many))
        for rows in ((), (pair,) * 5, [pair], pair, (pair, None), (list(pair),), (pair[:1],), (pair + pair[:1],), (pair, pair[0]), row_of(1),
                     None, "1 | 2", {0: pair}, ((pair,),), ((),)):
            tree = ("same", rows)
            with self.subTest(rows=repr(rows)[:60]):
                self.assertIs(refused(self, NoTree, show_tree, tree), tree)


class ReadTest(unittest.TestCase):
    def same_again(self, tree):
        """The text of a tree, which is read as the tree."""
        text = show_tree(tree)
        self.assertEqual(read_tree(text), tree)
        self.assertEqual(show_tree(read_tree(text)), text)
        return text

    def test_drawn_trees(self):
        draws = Draws(311)
        for at in range(200):
            self.same_again(drawn_tree(draws, at % 6))

    def test_all_that_is_told(self):
        draws = Draws(312)
        for at in range(27):
            net = one_net(draws, 1 + draws.below(3), at % 9)
            box = draws.box(net.ins())
            self.same_again(greatest_at([net], box, draws.row(net.outs()))[2])
            self.same_again(cover_of(net, box))
            if net.hidden() <= 4:
                self.same_again(told_alike(net, net, box)[1])
            found = find_spot(net, box, [(row_of(0) * net.outs(), (-1, 1))])
            self.assertEqual(found[0], "none")
            self.same_again(found[1])

    def test_long_numbers_and_many_rows(self):
        begun = time.perf_counter()
        for number in some_numbers():
            self.same_again(("most", (number,)))
            self.same_again(("same", (((number,), (number, number)),)))
        self.assertLessEqual(len(self.same_again(("piece", (some_numbers()[12],) * 22))), 50000)
        self.assertLessEqual(len(self.same_again(full(8, ("most", row_of(*range(14)))))), 50000)
        self.assertLess(time.perf_counter() - begun, SECONDS)

    def test_what_is_no_text(self):
        for text in [thing for thing in strange_things() if not isinstance(thing, str)] + [LEAF, b"most 1", ["most 1"]]:
            with self.subTest(text=repr(text)[:60]):
                self.assertEqual(refused(self, NoText, read_tree, text), 0)

    def test_rows_that_have_no_form(self):
        wrong = [
            "", " ", "most", "most ", " most 1", "most 1 ", "most  1", "most 1  2", "Most 1", "mosts 1", "most 1,2", "most: 1", "most 2/4",
            "most +1", "most 01", "most -0", "most 1/1", "most 1/0", "most 1.5", "most a", "most 1 | 2", "most 1 ; 2", "two ", " two", "two 1",
            "two two", "TWO", "most1", "most\t1", "same", "same ", "same 1", "same 1 |", "same | 1", "same 1 | 2 ;", "same 1 | 2 | 3",
            "same 1 | 2 ; 3", "same 1 | 2 ; ", "same 1 | 2; 3 | 4", "same 1| 2", "same 1 |2", "same 1|2", "same 1 |  2", "same  1 | 2",
            "same 1 | 2 ", "same 1 ; 2 | 3", "same 1 | 2 ; 3 | 4 ; 5 | 6 ; 7 | 8 ; 9 | 10", "same ; 1 | 2", "same 1 | 2 ; ; 3 | 4",
            "same 1 | | 2", "same 2/4 | 1", "undo", "net", "1 2", "-", "/", "most /", "most " + "1 " * 22 + "1",
            "same " + "1 " * 22 + "1 | 1", "same 1 | " + "1 " * 22 + "1", "most 1" + "0" * 400, "most 1/" + "1" + "0" * 400,
            "most -1" + "0" * 400, "same 1 | 1" + "0" * 400, "empty", "none", "piece", "against", "none x",
        ]
        for row in wrong:
            with self.subTest(row=row[:40]):
                self.assertEqual(refused(self, NoText, read_tree, row), 0)
                self.assertEqual(refused(self, NoText, read_tree, row + "\nmost 1"), 0)
                self.assertEqual(refused(self, NoText, read_tree, "two\n" + row + "\nmost 1"), 1)
                self.assertEqual(refused(self, NoText, read_tree, "two\nmost 1\n" + row), 2)
                self.assertEqual(refused(self, NoText, read_tree, "two\ntwo\nmost 1\nnone 2\n" + row), 4)
                self.assertEqual(refused(self, NoText, read_tree, "two\nmost 1\n" + row + "\n" + row), 2)
        self.assertEqual(read_tree("most 1" + "0" * 399), ("most", ((10 ** 399, 1),)))
        self.assertEqual(read_tree("most -1/1" + "0" * 399), ("most", ((-1, 10 ** 399),)))

    def test_rows_behind_a_whole_tree(self):
        for text, row in (("most 1\nmost 1", 1), ("most 1\n", 1), ("two\nmost 1\nmost 1\nmost 1", 3), ("two\nmost 1\nmost 1\n", 3),
                          ("same 1 | 1\ntwo", 1), ("two\ntwo\nnone 1\nnone 2\nnone 3\nempty 1", 5), ("none 1\nx\ny", 1), ("most 1\n\n", 1)):
            self.assertEqual(refused(self, NoText, read_tree, text), row)

    def test_where_more_would_have_to_come(self):
        for text, rows in (("two", 1), ("two\ntwo", 2), ("two\nmost 1", 2), ("two\ntwo\nmost 1", 3), ("two\ntwo\nmost 1\nmost 1", 4),
                           ("two\nmost 1\ntwo", 3), ("two\n" * 7 + "two", 8)):
            self.assertEqual(refused(self, NoText, read_tree, text), rows)
        self.assertEqual(refused(self, NoText, read_tree, "two\n"), 1)
        self.assertEqual(refused(self, NoText, read_tree, "two\nmost 1\n"), 2)

    def test_twos_within_one_another(self):
        eight = "two\n" * 8
        self.assertEqual(read_tree(eight + "\n".join(["most 1"] * 9))[1][1][1][1][1][1][1][1], ("most", row_of(1)))
        self.assertEqual(refused(self, NoText, read_tree, "two\n" + eight + "\n".join(["most 1"] * 10)), 8)
        self.assertEqual(refused(self, NoText, read_tree, "two\n" * 9), 8)
        # Behind the first tree of a two the second one has as much room.
        right = "two\nmost 1\n" * 8
        self.assertEqual(show_tree(read_tree(right + "most 1")), right + "most 1")
        self.assertEqual(refused(self, NoText, read_tree, "two\nmost 1\n" * 9 + "most 1"), 16)
        self.assertEqual(refused(self, NoText, read_tree, eight + "most 1\ntwo\nmost 1\nmost 1"), 9)

    def test_new_ones_each_time(self):
        text = show_tree(SAME)
        self.assertEqual(read_tree(text), read_tree(text))
        self.assertIs(read_tree(text).__class__, tuple)
        self.assertIs(read_tree(text)[1].__class__, tuple)


def full(twos, end):
    """The tree in which all ends lie within so many twos."""
    for _ in range(twos):
        end = ("two", end, end)
    return end


if __name__ == "__main__":
    unittest.main()
