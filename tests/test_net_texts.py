"""Points 31, 32 and 34: nets as texts."""

import unittest

from noughtcut.errors import NoText
from noughtcut.nets import Net, same_net
from noughtcut.nettext import read_net, show_net
from tests.things import Draws, refused, row_of, strange_things

NET = Net(2, [[(row_of(1, "-3/2"), (0, 1)), (row_of(0, "2/7"), (-4, 1))], [(row_of(-1, 12), (1, 3))]])
TEXT = "ins 2\nlayer 2\nnode 1 -3/2 : 0\nnode 0 2/7 : -4\nlast 1\nnode -1 12 : 1/3"

# Words that aren't numbers as they are written, or have more than thirty figures above or below.
NOT_NUMBERS = [
    "", "-", "+1", "01", "-0", "2/4", "1/1", "0/1", "1/0", "1/", "/2", "1/-2", "1.0", "one", ":", "node", "1_0", "1,",
    "1" + "0" * 30, "-1" + "0" * 30, "1/1" + "0" * 30, "1" * 31 + "/2", "1" * 400,
]


def with_row(row, new):
    """The rows of the text, one of them otherwise."""
    rows = TEXT.split("\n")
    rows[row] = new
    return "\n".join(rows)


class ShowTest(unittest.TestCase):
    def test_known_ones(self):
        self.assertEqual(show_net(NET), TEXT)
        self.assertEqual(show_net(Net(1, [[(row_of(1), (0, 1))]])), "ins 1\nlast 1\nnode 1 : 0")
        net = Net(3, [[(row_of(0, 0, 1), (1, 2))], [(row_of(2), (0, 1))] * 2, [(row_of(1, 1), (0, 1))], [(row_of(5), (6, 1))]])
        wanted = "ins 3\nlayer 1\nnode 0 0 1 : 1/2\nlayer 2\nnode 2 : 0\nnode 2 : 0\nlayer 1\nnode 1 1 : 0\nlast 1\nnode 5 : 6"
        self.assertEqual(show_net(net), wanted)

    def test_more_than_thirty_figures_are_written_too(self):
        net = Net(1, [[(((10 ** 399, 1),), (-1, 10 ** 399))]])
        ones = "1" + "0" * 399
        self.assertEqual(show_net(net), f"ins 1\nlast 1\nnode {ones} : -1/{ones}")


class ReadTest(unittest.TestCase):
    def bad_row(self, text, row):
        with self.subTest(text=text):
            self.assertEqual(refused(self, NoText, read_net, text), row)

    def test_read_again(self):
        self.assertIs(same_net(read_net(TEXT), NET), True)
        self.assertIsInstance(read_net(TEXT), Net)
        draws = Draws(31)
        for _ in range(150):
            net = draws.some_net()
            text = show_net(net)
            self.assertEqual(read_net(text).told(), net.told())
            self.assertEqual(show_net(read_net(text)), text)

    def test_thirty_figures(self):
        draws = Draws(32)
        long = [draws.long_number(30) for _ in range(4)]
        net = Net(2, [[((long[0], long[1]), long[2]), ((long[3], (0, 1)), (1, 1))], [(row_of(1, 1), long[1])]])
        self.assertEqual(read_net(show_net(net)).told(), net.told())
        self.assertEqual(show_net(read_net(show_net(net))), show_net(net))

    def test_no_text(self):
        for thing in [thing for thing in strange_things() if not isinstance(thing, str)] + [NET, [TEXT], (TEXT,), 5]:
            self.assertEqual(refused(self, NoText, read_net, thing), 0)

    def test_the_text_without_signs_is_one_row(self):
        self.bad_row("", 0)
        self.bad_row("\n", 0)
        self.bad_row("\n" + TEXT, 0)

    def test_rows_of_ins(self):
        for row in ["ins", "ins ", "ins 0", "ins 4", "ins 02", "ins +2", "ins 2 ", " ins 2", "ins  2", "ins 2 2", "in 2",
                    "Ins 2", "2", "2 ins", "ins two", "ins 10", "ins -1", "ins 2/1", "layer 2", "node 2", "last 2", "ins 1 1"]:
            self.bad_row(with_row(0, row), 0)
        self.bad_row("ins 2", 1)
        self.bad_row(with_row(0, "ins 1"), 2)
        self.bad_row(with_row(0, "ins 3"), 2)

    def test_rows_of_layers(self):
        for at in (1, 4):
            for word in ("layer", "last"):
                for row in ["", word, word + " ", word + " 0", word + " 5", word + " 01", word + "  1", word + " 1 ",
                            " " + word + " 1", word + " 1 1", word + " one", word + " -1", word + " 1/1", word + " 10",
                            "1 " + word, word + "1", word.upper() + " 1", word + "s 1"]:
                    self.bad_row(with_row(at, row), at)
            for row in ["ins 1", "node 1 : 0", "lay 1", "lasts 1", "first 1", "node 1 1", "from 0 to 1"]:
                self.bad_row(with_row(at, row), at)

    def test_a_row_of_layers_that_tells_otherwise(self):
        self.bad_row(with_row(1, "layer 1"), 3)
        self.bad_row(with_row(1, "layer 3"), 4)
        self.bad_row(with_row(1, "last 2"), 4)
        self.bad_row(with_row(1, "last 1"), 3)
        self.bad_row(with_row(4, "last 2"), 6)
        self.bad_row(with_row(4, "layer 1"), 6)
        self.bad_row(with_row(4, "layer 1") + "\nlast 1\nnode 1 1 : 0", 7)
        self.assertEqual(read_net(with_row(4, "layer 1") + "\nlast 1\nnode 1 : 0").hidden(), 3)

    def test_rows_of_nodes(self):
        rights = {2: "node 1 -3/2 : 0", 3: "node 0 2/7 : -4", 5: "node -1 12 : 1/3"}
        for at, right in rights.items():
            words = right.split(" ")
            for place, word in enumerate(words):
                others = [words[:place] + words[place + 1:], words[:place] + [word, word] + words[place + 1:]]
                others += [words[:place] + ["x"] + words[place + 1:], words[:place] + [word.upper() + ";"] + words[place + 1:]]
                others += [words[:place] + [""] + words[place:]]
                for other in others:
                    self.bad_row(with_row(at, " ".join(other)), at)
            for row in ["", " " + right, right + " ", right + " 0", right.replace(" : ", ":"), right.replace(":", "::"),
                        right.replace(" :", ""), "node", "node :", "node : 0", "node 1 : 0", "node 1 1 1 : 0", "layer 1",
                        right.replace("node", "last"), right.replace("node", "nodes"), right.replace(" ", "  ")]:
                self.bad_row(with_row(at, row), at)

    def test_words_that_are_no_such_numbers(self):
        for at, place in ((2, 1), (2, 2), (2, 4), (3, 1), (3, 4), (5, 1), (5, 2), (5, 4)):
            for word in NOT_NUMBERS:
                words = TEXT.split("\n")[at].split(" ")
                words[place] = word
                self.bad_row(with_row(at, " ".join(words)), at)

    def test_a_fourth_layer_is_the_last(self):
        three = "ins 1" + "\nlayer 1\nnode 1 : 0" * 3
        self.assertEqual(read_net(three + "\nlast 1\nnode 1 : 0").hidden(), 3)
        self.bad_row(three + "\nlayer 1\nnode 1 : 0\nlast 1\nnode 1 : 0", 7)
        self.bad_row(three + "\nlayer 1", 7)
        self.bad_row(three, 7)
        self.bad_row(three + "\nlast 5", 7)
        self.bad_row(three + "\n", 7)

    def test_rows_behind_the_last(self):
        for more in ["\n", "\n\n", "\nnode 1 1 : 0", "\nlast 1", "\nlayer 1", "\nins 2", "\n ", "\nlast 1\nnode 1 : 0"]:
            self.bad_row(TEXT + more, 6)
        self.bad_row(TEXT + "\n" + TEXT, 6)

    def test_rows_that_lack(self):
        rows = TEXT.split("\n")
        for many in range(1, len(rows)):
            self.bad_row("\n".join(rows[:many]), many)
            self.bad_row("\n".join(rows[:many]) + "\n", many)

    def test_the_first_bad_row_is_told(self):
        rows = TEXT.split("\n")
        for first in range(len(rows)):
            bad = [row if at < first else row + " " for at, row in enumerate(rows)]
            self.bad_row("\n".join(bad), first)
            self.bad_row("\n".join(bad[:first + 1]), first)

    def test_six_thousand_signs(self):
        self.bad_row("\n" * 6000, 0)
        self.bad_row("ins 2" + "\n" * 5995, 1)
        self.bad_row("ins 1\nlast 1\nnode " + "1" * 5900 + " : 0", 2)
        self.bad_row(TEXT + " 1" * 2950, 5)

    def test_what_is_read_is_written_so(self):
        for text in (TEXT, "ins 3\nlast 1\nnode 0 0 0 : 0", "ins 1\nlayer 1\nnode -1/2 : 5\nlast 2\nnode 1 : 0\nnode 0 : 0"):
            self.assertEqual(show_net(read_net(text)), text)


if __name__ == "__main__":
    unittest.main()
