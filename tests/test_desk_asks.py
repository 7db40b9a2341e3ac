"""Points 115 and 116: what a desk tells of lines that ask."""

import time
import unittest

from noughtcut.alike import told_alike
from noughtcut.errors import Large, NoAim, NoBox, NoFit, NoOut, NoSpot
from noughtcut.handing import states_of
from noughtcut.needless import needless_wires
from noughtcut.nets import Net
from noughtcut.nettext import show_box, show_net
from noughtcut.pieces import pieces_of
from noughtcut.tighter import tightened
from noughtcut.trees import closes, greatest_at, least_at
from noughtcut.treetext import read_tree, show_tree
from noughtcut.wanted import above_all, always_holds
from tests.desking import desk_with, kept_at, one_line, wires, written
from tests.netting import scaled
from tests.test_desk import BOXES, FAR, NETS, SQUARE, new_desk
from tests.things import Draws, as_fraction, as_tuple, refused, row_of
from tests.treeing import one_net

SECONDS = 20


def drawn_desks(seed, many):
    """Desks with two nets, a and c, of as many ins and outs, and a box b; the nets, the box, and draws."""
    draws = Draws(seed)
    for at in range(many):
        net = one_net(draws, 1 + draws.below(3), at % 5)
        other = net
        if at % 3 == 0:
            other = draws.net(net.ins(), [2, net.outs()])
        elif net.hidden():
            other = scaled(net, 0, 0, (5, 3))
        box = draws.box(net.ins())
        yield desk_with({"a": net, "c": other}, {"b": box}), net, other, box, draws


class KnownTest(unittest.TestCase):
    def setUp(self):
        self.desk = new_desk()

    def told(self, line, text):
        """The line tells this text, also when it is told again."""
        for _ in range(2):
            self.assertEqual(self.desk.say(line), text)

    def test_texts(self):
        self.told("show far", "ins 1 / layer 2 / node 1 : -1 / node -1 : 1 / last 1 / node 1 1 : 3")
        self.told("show plain", "ins 1 / last 1 / node 1 : 2")
        self.told("sides near", "from 2 to 3")
        self.told("sides square", "from 0 to 1 / from 0 to 1")

    def test_outs_and_patterns(self):
        self.told("out far 1/2", "7/2")
        self.told("out two 3 1/2", "6 -5/2")
        self.told("pattern far 1/2", "2")
        self.told("pattern far 1", "0")
        self.told("pattern plain 0", "0")
        self.told("pattern two 1 0", "1")

    def test_bounds_and_states(self):
        self.told("bounds plain near", "4 5")
        self.told("bounds two square", "-1 1 ; 1 3 ; -1 0")
        self.told("states far near", "kept cut")
        self.told("states two square", "open")
        self.told("states plain near", "-")

    def test_most_least_and_paper(self):
        self.desk.say("box wide from -1 to 2")
        self.told("most far wide 1", "5 at -1")
        self.told("least far wide 1/2", "3/2 at 1")
        self.told("most plain near -1", "-4 at 2")
        self.told("most two square 1 0", "3 at 1 0")
        self.told("paper plain near -1", "most 0 1")
        self.told("paper far near 1", "two / empty 0 1 1 / two / most 1 0 0 0 / empty 0 1 0 1")

    def test_alike(self):
        self.told("alike far far near", "alike")
        self.told("alike far plain near", "alike")
        self.desk.say("box wide from 0 to 3")
        self.told("alike far plain wide", "unlike 0 at 0")

    def test_needless_and_pieces(self):
        self.told("needless far near", "1 0 1")
        self.told("needless two square", "-")
        self.told("needless plain near", "-")
        self.told("pieces far near", "1")
        self.told("pieces two square", "0 1")
        self.told("pieces plain near", "0")
        self.desk.say("net held ins 1 / layer 1 / node 1 : 2 / layer 1 / node -1 : 1/2 / last 1 / node 5 : 0")
        self.told("needless held near", "0 0 0 ; 2 0 0")

    def test_always_and_above(self):
        self.told("always far near 0 5", "true")
        self.told("always far near 0 4", "false at 3")
        self.told("always two square 1 0", "true")
        self.told("always two square 0 5/2", "false at 1 0")
        self.told("above two square 0", "true")
        self.told("above two square 1", "false 0 at 1 0")
        self.told("above far near 0", "true")

    def test_names_that_are_words(self):
        desk = desk_with({"net": FAR, "undo": FAR}, {"net": BOXES["near"], "box": BOXES["near"]})
        self.assertEqual(desk.say("alike net undo box"), "alike")
        self.assertEqual(desk.say("states net net"), "kept cut")


class DrawnTest(unittest.TestCase):
    def test_what_the_functions_tell(self):
        for desk, net, other, box, draws in drawn_desks(331, 40):
            before = kept_at(desk, ["a", "c"], ["b"])
            spot, aim = draws.row(net.ins()), draws.row(net.outs())
            number, at, tree = greatest_at([net], box, aim)
            low, low_at, _ = least_at([net], box, aim)
            alike = told_alike(net, other, box)
            for line, text in (
                ("show a", one_line(show_net(net))), ("sides b", one_line(show_box(box))),
                (f"out a {written(spot)}", written(net.outs_at(spot))), (f"pattern a {written(spot)}", str(net.pattern_at(spot))),
                ("bounds a b", " ; ".join(written(four[2:]) for layer in tightened(net, box) for four in layer)),
                ("states a b", " ".join(states_of(net, box)) or "-"),
                (f"most a b {written(aim)}", f"{as_fraction(number)} at {written(at)}"),
                (f"least a b {written(aim)}", f"{as_fraction(low)} at {written(low_at)}"),
                (f"paper a b {written(aim)}", one_line(show_tree(tree))),
                ("alike a c b", "alike" if alike[0] == "alike" else f"unlike {alike[1]} at {written(alike[2])}"),
                ("needless a b", wires(needless_wires(net, box))),
                ("pieces a b", " ".join(str(pattern) for pattern, _, _ in pieces_of(net, box))),
            ):
                with self.subTest(line=line):
                    self.assertEqual(desk.say(line), text)
                    self.assertEqual(desk.say(line), text)
            self.assertIs(closes([net], box, aim, number, read_tree(desk.say(f"paper a b {written(aim)}").replace(" / ", "\n"))), True)
            self.assertEqual(kept_at(desk, ["a", "c"], ["b"]), before)

    def test_what_is_wanted_of_each_out(self):
        seen = {"true": 0, "false": 0}
        for desk, net, _, box, draws in drawn_desks(332, 30):
            for out in range(net.outs()):
                row = row_of(*[int(at == out) for at in range(net.outs())])
                most = greatest_at([net], box, row)[0]
                for number in (most, as_tuple(as_fraction(most) - 1), draws.number()):
                    word, shown = always_holds(net, box, (row, number))
                    seen[word] += 1
                    text = "true" if word == "true" else f"false at {written(shown)}"
                    self.assertEqual(desk.say(f"always a b {out} {as_fraction(number)}"), text)
                told = above_all(net, box, out)
                text = "true" if told[0] == "true" else f"false {told[1]} at {written(told[2])}"
                self.assertEqual(desk.say(f"above a b {out}"), text)
        self.assertGreater(min(seen.values()), 20)

    def test_show_and_sides_are_read_again(self):
        for desk, _, _, _, _ in drawn_desks(333, 20):
            before = kept_at(desk, ["a", "c"], ["b"])
            for word, line, name in (("net", "show", "a"), ("net", "show", "c"), ("box", "sides", "b")):
                self.assertEqual(desk.say(f"{word} {name} {desk.say(f'{line} {name}')}"), "ok")
                self.assertEqual(desk.say(f"{word} new {desk.say(f'{line} {name}')}"), "ok")
                self.assertEqual(desk.say(f"{line} new"), desk.say(f"{line} {name}"))
            self.assertEqual(kept_at(desk, ["a", "c"], ["b"]), before)

    def test_eight_hidden_nodes(self):
        begun = time.perf_counter()
        draws = Draws(334)
        net = draws.net(3, [4, 4, 2])
        desk = desk_with({"a": net, "few": draws.net(3, [4, 2])}, {"b": (row_of(-3, 3),) * 3})
        desk.say(f"weight a 0 0 0 {as_fraction(draws.long_number(30))}")
        for line in ("most a b 1 1", "least a b 1 -1", "paper a b 2 3", "alike few few b", "needless few b", "slim few b", "pieces a b",
                     "always a b 1 1000", "above a b 0", "bounds a b"):
            self.assertIs(desk.say(line).__class__, str)
        self.assertLess(time.perf_counter() - begun, SECONDS)


class RefusedTest(unittest.TestCase):
    def setUp(self):
        self.desk = new_desk()
        self.desk.say("net nine " + one_line(show_net(Draws(335).net(1, [4, 4, 1, 2]))))
        self.desk.say("net five " + one_line(show_net(Draws(336).net(1, [4, 1, 2]))))

    def test_spots_and_aims(self):
        for line, found in (("out far 1 2", row_of(1, 2)), ("pattern two 1", row_of(1)), ("out two 1 2 3 1/2", row_of(1, 2, 3, "1/2"))):
            self.assertEqual(refused(self, NoSpot, self.desk.say, line), found)
        for word in ("most", "least", "paper"):
            self.assertEqual(refused(self, NoAim, self.desk.say, f"{word} far near 1 2"), row_of(1, 2))
            self.assertEqual(refused(self, NoAim, self.desk.say, f"{word} two square -1"), row_of(-1))
            self.assertEqual(refused(self, NoAim, self.desk.say, f"{word} nine near 1"), row_of(1))
            self.assertEqual(refused(self, Large, self.desk.say, f"{word} nine near 1 1"), 9)

    def test_boxes_first(self):
        for line in ("bounds far square", "states far square", "most far square 1", "most nine square 1",
                     "least far square 1 2", "paper far square 1",
                     "alike far far square", "needless far square", "needless nine square", "pieces nine square", "always far square 9 1",
                     "always nine square 9 1", "above far square 9", "above nine square 0", "slim far square", "slim five square"):
            self.assertEqual(refused(self, NoBox, self.desk.say, line), SQUARE)

    def test_outs(self):
        for net, outs in (("far", 1), ("nine", 2), ("five", 2)):
            for out in (outs, outs + 1, 99):
                self.assertEqual(refused(self, NoOut, self.desk.say, f"always {net} near {out} 1"), out)
                self.assertEqual(refused(self, NoOut, self.desk.say, f"above {net} near {out}"), out)
        self.assertEqual(self.desk.say("always five near 1 " + "9" * 30), "true")

    def test_nets_that_do_not_fit(self):
        for line, name in (("alike far two square", "two"), ("alike two far square", "far"), ("alike nine far near", "far"),
                           ("alike far nine square", "nine")):
            found = refused(self, NoFit, self.desk.say, line)
            self.assertEqual(one_line(show_net(found)), self.desk.say(f"show {name}"))

    def test_too_many_hidden_nodes(self):
        for line, many in (("pieces nine near", 9), ("always nine near 0 1", 9), ("above nine near 1", 9), ("alike nine nine near", 18),
                           ("alike five five near", 10), ("needless five near", 10), ("needless nine near", 18), ("slim nine near", 18)):
            self.assertEqual(refused(self, Large, self.desk.say, line), many)
        self.assertEqual(self.desk.say("states nine near").count(" "), 8)
        self.assertEqual(self.desk.say("bounds nine near").count(";"), 10)

    def test_what_is_refused_changes_nothing(self):
        before = kept_at(self.desk, [*NETS, "nine"], list(BOXES))
        for line in ("out far 1 2", "most nine near 1 1", "bounds far square", "always far near 1 1", "alike far two square", "slim nine near"):
            with self.assertRaises(ValueError):
                self.desk.say(line)
        self.assertEqual(kept_at(self.desk, [*NETS, "nine"], list(BOXES)), before)
        self.desk.say("undo")
        self.assertEqual(kept_at(self.desk, ["five"], []), {("show", "five"): ("NoName", {"found": "five"})})


class WrittenTest(unittest.TestCase):
    def test_whole_numbers_and_fractions(self):
        net = Net(1, [[(row_of(1), (0, 1)), (row_of(0), (-5, 1)), (row_of("1/2"), (0, 1))]])
        desk = desk_with({"a": net}, {"b": (row_of("-1/3", 4),)})
        self.assertEqual(desk.say("out a -3"), "-3 -5 -3/2")
        self.assertEqual(desk.say("bounds a b"), "-1/3 4 ; -5 -5 ; -1/6 2")
        self.assertEqual(desk.say("most a b -1 0 0"), "1/3 at -1/3")
        self.assertEqual(desk.say("above a b 1"), "false 0 at 4")
        self.assertEqual(desk.say("sides b"), "from -1/3 to 4")

    def test_long_numbers(self):
        long = "1" + "0" * 29
        desk = desk_with({"a": FAR}, {})
        self.assertEqual(desk.say(f"weight a 0 0 0 {long}"), "ok")
        self.assertEqual(desk.say(f"out a {long}"), str(10 ** 58 + 2))
        self.assertEqual(desk.say(f"box b from -1/{long} to {long}"), "ok")
        self.assertEqual(desk.say("most a b 1"), f"{10 ** 58 + 2} at {long}")


if __name__ == "__main__":
    unittest.main()
