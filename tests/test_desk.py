"""Points 6, 113 and 114: what desks keep by their names, what changes it, and what is refused."""

import unittest

from noughtcut.desk import Desk
from noughtcut.errors import Large, NoBox, NoFit, NoLine, NoName, NoNode, NoText, NoWire
from noughtcut.needless import slimmed
from noughtcut.nets import Net, same_net, with_number, with_weight
from noughtcut.nettext import read_box, read_net, show_net
from noughtcut.together import behind, beside, opposite
from tests.desking import desk_with, kept_at, one_line, wires
from tests.test_desk_lines import LINES
from tests.things import Draws, refused, row_of, strange_things

FAR = Net(1, [[(row_of(1), (-1, 1)), (row_of(-1), (1, 1))], [(row_of(1, 1), (3, 1))]])
PLAIN = Net(1, [[(row_of(1), (2, 1))]])
TWO = Net(2, [[(row_of(1, -1), (0, 1))], [(row_of(2), (1, 1)), (row_of(-1), (0, 1))]])
NEAR = (row_of(2, 3),)
SQUARE = (row_of(0, 1), row_of(0, 1))
NETS = {"far": FAR, "plain": PLAIN, "two": TWO}
BOXES = {"near": NEAR, "square": SQUARE}


def new_desk():
    """A desk with three nets and two boxes."""
    return desk_with(NETS, BOXES)


def net_at(desk, name):
    """The net that a desk keeps by a name."""
    return read_net(desk.say(f"show {name}").replace(" / ", "\n"))


class NamesTest(unittest.TestCase):
    def test_at_first_nothing_is_kept(self):
        for line, told in LINES.items():
            if told[0] not in ("net", "box", "undo"):
                name = told[2] if told[0] in ("behind", "beside", "opposite") else told[1]
                self.assertEqual(refused(self, NoName, Desk().say, line), name)
        self.assertEqual(refused(self, NoLine, Desk().say, "undo"), "undo")

    def test_the_first_name_that_is_not_kept(self):
        desk = new_desk()
        for line, name in (("bounds x y", "x"), ("bounds far y", "y"), ("bounds x near", "x"), ("alike far x y", "x"), ("alike x far near", "x"),
                           ("alike far plain x", "x"), ("alike x y z", "x"), ("behind x y z", "y"), ("behind x far z", "z"),
                           ("beside x y far", "y"), ("opposite x y", "y"), ("most far x 1", "x"), ("most x near 1", "x"), ("show x", "x"),
                           ("sides x", "x"), ("slim far x", "x"), ("above far x 0", "x"), ("always x y 9 1", "x"), ("weight x 9 9 9 0", "x"),
                           ("number x 9 9 0", "x"), ("out x 1 2 3", "x"), ("pattern x 1", "x"), ("paper x y 1", "x"), ("pieces far x", "x"),
                           ("needless x y", "x"), ("least x y 1", "x"), ("states x y", "x")):
            self.assertEqual(refused(self, NoName, desk.say, line), name)

    def test_nets_and_boxes_have_names_of_their_own_kind(self):
        desk = new_desk()
        for line, name in (("show near", "near"), ("sides far", "far"), ("bounds near far", "near"), ("bounds far far", "far"),
                           ("bounds near near", "near"), ("alike far plain plain", "plain"), ("behind a far near", "near"),
                           ("opposite a near", "near"), ("out near 1", "near"), ("slim far plain", "plain")):
            self.assertEqual(refused(self, NoName, desk.say, line), name)
        self.assertEqual(desk.say("box far from 0 to 1"), "ok")
        self.assertEqual(desk.say("net near ins 1 / last 1 / node 1 : 0"), "ok")
        self.assertEqual(desk.say("sides far"), "from 0 to 1")
        self.assertIs(same_net(net_at(desk, "far"), FAR), True)
        self.assertEqual(desk.say("out near 5"), "5")
        self.assertEqual(desk.say("sides near"), "from 2 to 3")
        self.assertEqual(desk.say("states far far"), "cut kept")

    def test_names_behind_lines_and_ahead_of_all_else(self):
        desk = new_desk()
        for line in ("weight x 0 0 0 2/4", "show", "bounds x", "bounds x y z", "out x", "undo x", "show X", "above x y 100"):
            self.assertIs(refused(self, NoLine, desk.say, line), line)
        big = Draws(321).net(1, [4, 4, 4, 1])
        desk = desk_with({"big": big, "two": TWO}, BOXES)
        for line in ("most big x 1 2 3", "alike big two x", "above big x 9", "weight x 7 7 7 1", "always big x 7 1", "pieces big x"):
            self.assertEqual(refused(self, NoName, desk.say, line), "x")

    def test_any_other_thing(self):
        desk = new_desk()
        for thing in strange_things() + [b"undo", ["undo"], ("undo",), "undo ", " undo", "und", "show far\n", "show far / "]:
            self.assertIs(refused(self, NoLine, desk.say, thing), thing)


class ChangesTest(unittest.TestCase):
    def test_nets_and_boxes(self):
        desk = Desk()
        self.assertEqual(desk.say("net a ins 1 / last 1 / node 1/2 : -3"), "ok")
        self.assertEqual(desk.say("show a"), "ins 1 / last 1 / node 1/2 : -3")
        self.assertEqual(desk.say("net a ins 2 / last 1 / node 1 0 : 0"), "ok")
        self.assertEqual(desk.say("show a"), "ins 2 / last 1 / node 1 0 : 0")
        self.assertEqual(desk.say("box a from 0 to 1/2"), "ok")
        self.assertEqual(desk.say("box a from -1 to 2 / from 0 to 0"), "ok")
        self.assertEqual(desk.say("sides a"), "from -1 to 2 / from 0 to 0")
        self.assertEqual(desk.say("show a"), "ins 2 / last 1 / node 1 0 : 0")

    def test_texts_that_are_refused(self):
        desk = new_desk()
        for rows, row in (("", 0), ("ins 4", 0), ("ins 1", 1), ("ins 1 / last 1", 2), ("ins 1 / last 1 / node 1 : 2/4", 2), ("ins 1/ last 1", 0),
                          ("ins 1 / last 1 / node 1 : 0 / x", 3), ("ins 1 / last 1 / node 1 : 0 / ", 3), ("ins 1 /  / x", 1)):
            self.assertEqual(refused(self, NoText, desk.say, f"net far {rows}"), row)
        for rows, row in (("", 0), ("from 0", 0), ("from 0 to 1 / ", 1), ("from 0 to 1 / from 0 to 2/4", 1), ("from 0 to 1/ from 0 to 1", 0)):
            self.assertEqual(refused(self, NoText, desk.say, f"box near {rows}"), row)
        self.assertEqual(refused(self, NoText, desk.say, "box near " + " / ".join(["from 0 to 1"] * 4)), 3)
        self.assertEqual(refused(self, NoBox, desk.say, "box near from 1 to 0"), (row_of(1, 0),))
        self.assertEqual(refused(self, NoBox, desk.say, "box new from 0 to 1 / from 1 to 0"), (row_of(0, 1), row_of(1, 0)))
        self.assertEqual(kept_at(desk, ["far", "new"], ["near", "new"]), kept_at(new_desk(), ["far", "new"], ["near", "new"]))

    def test_weights_and_numbers(self):
        desk = new_desk()
        self.assertEqual(desk.say("weight far 1 0 1 -7/2"), "ok")
        self.assertIs(same_net(net_at(desk, "far"), with_weight(FAR, 1, 0, 1, (-7, 2))), True)
        self.assertEqual(desk.say("number far 0 1 0"), "ok")
        self.assertIs(same_net(net_at(desk, "far"), with_number(with_weight(FAR, 1, 0, 1, (-7, 2)), 0, 1, (0, 1))), True)
        self.assertIs(same_net(net_at(desk, "two"), TWO), True)
        for line, found in (("weight far 2 0 0 1", (2, 0)), ("weight far 0 2 9 1", (0, 2)), ("weight far 99 99 99 1", (99, 99)),
                            ("number far 2 0 1", (2, 0)), ("number far 1 1 1", (1, 1))):
            self.assertEqual(refused(self, NoNode, desk.say, line), found)
        for line, found in (("weight far 0 0 1 1", 1), ("weight far 1 0 2 1", 2), ("weight far 1 0 99 1", 99)):
            self.assertEqual(refused(self, NoWire, desk.say, line), found)

    def test_slim(self):
        desk = new_desk()
        left, gone = slimmed(FAR, NEAR)
        self.assertEqual(gone, [(1, 0, 1), (0, 1, 0)])
        self.assertEqual(desk.say("slim far near"), "1 0 1 ; 0 1 0")
        self.assertIs(same_net(net_at(desk, "far"), left), True)
        self.assertEqual(desk.say("slim far near"), "-")
        self.assertEqual(desk.say("slim two square"), "-")
        self.assertEqual(refused(self, NoBox, desk.say, "slim far square"), SQUARE)
        five = Draws(322).net(1, [4, 1, 1])
        self.assertEqual(refused(self, Large, desk_with({"five": five}, BOXES).say, "slim five near"), 10)
        self.assertEqual(refused(self, NoBox, desk_with({"five": five}, BOXES).say, "slim five square"), SQUARE)

    def test_slim_of_drawn_nets(self):
        draws = Draws(323)
        for at in range(12):
            net, box = draws.net(2, [1 + at % 3, 2]), draws.box(2)
            desk = desk_with({"a": net}, {"b": box})
            left, gone = slimmed(net, box)
            self.assertEqual(desk.say("slim a b"), wires(gone))
            self.assertIs(same_net(net_at(desk, "a"), left), True)

    def test_put_together(self):
        desk = new_desk()
        for line, wanted in (("behind new far plain", behind(FAR, PLAIN)), ("behind far far far", behind(FAR, FAR)),
                             ("beside new plain plain", beside(PLAIN, PLAIN)), ("beside two two two", beside(TWO, TWO)),
                             ("opposite plain plain", opposite(PLAIN)), ("opposite other plain", PLAIN),
                             ("behind other plain plain", behind(opposite(PLAIN), opposite(PLAIN))), ("behind plain plain other", None)):
            self.assertEqual(desk.say(line), "ok")
            if wanted is not None:
                self.assertIs(same_net(net_at(desk, line.split(" ")[1]), wanted), True)

    def test_which_is_the_one(self):
        desk = new_desk()
        self.assertEqual(desk.say("behind a plain far"), "ok")
        self.assertIs(same_net(net_at(desk, "a"), behind(PLAIN, FAR)), True)
        self.assertEqual(desk.say("behind b far plain"), "ok")
        self.assertIs(same_net(net_at(desk, "b"), behind(FAR, PLAIN)), True)
        self.assertIs(same_net(behind(PLAIN, FAR), behind(FAR, PLAIN)), False)
        self.assertEqual(desk.say("beside c far b"), "ok")
        self.assertIs(same_net(net_at(desk, "c"), beside(FAR, behind(FAR, PLAIN))), True)

    def test_that_do_not_fit(self):
        desk = new_desk()
        for line, other in (("behind a far two", TWO), ("behind a two far", FAR), ("behind a two plain", PLAIN), ("beside a far plain", PLAIN),
                            ("beside a far two", TWO), ("beside far two plain", PLAIN)):
            found = refused(self, NoFit, desk.say, line)
            self.assertIs(same_net(found, other), True)
        desk.say("behind three far far")
        desk.say("behind four three far")
        self.assertIs(same_net(refused(self, NoFit, desk.say, "behind four four far"), FAR), True)
        self.assertEqual(desk.say("behind four four plain"), "ok")

    def test_no_net_is_changed_by_another_name(self):
        desk = new_desk()
        desk.say("opposite same far")
        desk.say("opposite same same")
        desk.say("weight same 0 0 0 9")
        self.assertIs(same_net(net_at(desk, "far"), FAR), True)
        desk.say("number far 0 0 9")
        self.assertIs(same_net(net_at(desk, "same"), with_weight(FAR, 0, 0, 0, (9, 1))), True)


class UndoTest(unittest.TestCase):
    LINES = (
        "net new ins 1 / last 1 / node 1 : 0", "net far ins 1 / last 1 / node 7 : 0", "box other from 0 to 1", "box near from 5 to 6",
        "weight two 0 0 1 9", "number plain 0 0 -9", "slim far near", "slim far near", "behind more plain plain", "behind plain plain plain",
        "beside far far far", "opposite far far", "opposite again far", "weight far 0 0 0 0", "net far ins 3 / last 1 / node 1 2 3 : 4",
    )

    def states(self, desk):
        """All that the desk keeps by the names of these lines."""
        return kept_at(desk, ["far", "plain", "two", "new", "more", "again"], ["near", "square", "other"])

    def test_each_line_and_all_of_them(self):
        for line in self.LINES[:-1]:
            desk = new_desk()
            before = self.states(desk)
            desk.say(line)
            self.assertEqual(desk.say("undo"), "ok")
            self.assertEqual(self.states(desk), before)
        desk = new_desk()
        seen = [self.states(desk)]
        for line in self.LINES:
            desk.say(line)
            seen.append(self.states(desk))
        for before in reversed(seen[:-1]):
            self.assertEqual(desk.say("undo"), "ok")
            self.assertEqual(self.states(desk), before)
        for _ in range(5):
            self.assertEqual(desk.say("undo"), "ok")
        self.assertEqual(self.states(desk), self.states(Desk()))
        line = "undo"
        self.assertIs(refused(self, NoLine, desk.say, line), line)

    def test_what_is_taken_back_does_not_come_again(self):
        desk = desk_with({"a": FAR}, {})
        desk.say("opposite a a")
        desk.say("number a 1 0 5")
        desk.say("undo")
        self.assertIs(same_net(net_at(desk, "a"), opposite(FAR)), True)
        desk.say("number a 1 0 7")
        desk.say("undo")
        self.assertIs(same_net(net_at(desk, "a"), opposite(FAR)), True)
        desk.say("undo")
        self.assertIs(same_net(net_at(desk, "a"), FAR), True)
        desk.say("undo")
        self.assertEqual(refused(self, NoName, desk.say, "show a"), "a")
        self.assertEqual(refused(self, NoLine, desk.say, "undo"), "undo")
        desk.say("net a ins 1 / last 1 / node 1 : 0")
        desk.say("undo")
        self.assertEqual(refused(self, NoLine, desk.say, "undo"), "undo")

    def test_lines_that_ask_and_lines_that_are_refused_are_not_taken_back(self):
        desk = new_desk()
        desk.say("opposite far far")
        for line in ("show far", "sides near", "out far 1", "pattern far 1", "bounds far near", "states far near",
                     "most far near 1", "least far near 1", "paper far near 1", "alike far plain near",
                     "needless far near", "pieces far near", "always far near 0 1", "above two square 0"):
            desk.say(line)
        for line in ("show", "x", "show x", "net far x", "box near x", "weight far 9 0 0 1", "weight far 0 0 9 1", "number far 9 9 9",
                     "slim far square", "behind far far two", "beside far far two", "opposite far x", "out far 1 2", "bounds far square"):
            with self.assertRaises(ValueError):
                desk.say(line)
        self.assertIs(same_net(net_at(desk, "far"), opposite(FAR)), True)
        desk.say("undo")
        self.assertIs(same_net(net_at(desk, "far"), FAR), True)
        desk.say("undo")
        self.assertEqual(refused(self, NoName, desk.say, "sides square"), "square")

    def test_a_change_that_changes_nothing_is_taken_back_by_itself(self):
        desk = desk_with({"a": FAR}, {"b": NEAR})
        desk.say("slim a b")
        left = net_at(desk, "a")
        self.assertEqual(desk.say("slim a b"), "-")
        desk.say("undo")
        self.assertIs(same_net(net_at(desk, "a"), left), True)
        desk.say("undo")
        self.assertIs(same_net(net_at(desk, "a"), FAR), True)


class SharedTest(unittest.TestCase):
    def test_two_desks_share_nothing(self):
        one, other = new_desk(), new_desk()
        before = UndoTest.states(self, other)
        for line in UndoTest.LINES:
            one.say(line)
            self.assertEqual(UndoTest.states(self, other), before)
        third = Desk()
        self.assertEqual(refused(self, NoName, third.say, "show far"), "far")
        self.assertEqual(refused(self, NoLine, third.say, "undo"), "undo")

    def test_what_was_told_changes_nothing(self):
        desk = new_desk()
        found = refused(self, NoFit, desk.say, "behind a far two")
        found.layers_told()[0].clear()
        self.assertEqual(desk.say("show two"), one_line(show_net(TWO)))
        self.assertEqual(read_box(desk.say("sides square").replace(" / ", "\n")), SQUARE)

    def test_the_same_lines_again(self):
        for line in UndoTest.LINES[:-1]:
            one, other = new_desk(), new_desk()
            self.assertEqual(one.say(line), other.say(line))
            self.assertEqual(UndoTest.states(self, one), UndoTest.states(self, other))


if __name__ == "__main__":
    unittest.main()
