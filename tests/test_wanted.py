"""Points 5 to 8 and 91 to 93: whether a wish always holds, an out is above all, and wishes meet."""

import time
import unittest

from noughtcut.errors import Large, NoBox, NoOut, NoWish
from noughtcut.nets import Net, net_of
from noughtcut.numbers import NOUGHT, minus
from noughtcut.trees import closes, greatest_at
from noughtcut.wanted import above_all, always_holds, find_spot, shows_above, shows_always, shows_found
from tests.test_boxes import not_boxes, spots_of
from tests.test_net_changes import NOT_COUNTS
from tests.things import Draws, as_fraction, as_tuple, come_to, refused, row_of, strange_things
from tests.treeing import against, cases_of, hidden_and_outs, is_tree, large_nets, one_net, wishes_of
from tests.wishing import crossings, keeps_all, not_lists, weighs, whole_wish, wrong_wishes

BOX = (row_of(-1, 2),)
SQUARE = (row_of(0, 1), row_of(0, 1))
# The outs are how far the in is from 1, and the in itself.
TWO = Net(1, [[(row_of(1), (-1, 1)), (row_of(-1), (1, 1)), (row_of(1), (9, 1))],
              [(row_of(1, 1, 0), (0, 1)), (row_of(0, 0, 1), (-9, 1))]])
# The outs: the in, the in again, and the in cut at nought.
SAME = Net(1, [[(row_of(1), (0, 1)), (row_of(1), (5, 1))],
               [(row_of(0, 1), (-5, 1)), (row_of(0, 1), (-5, 1)), (row_of(1, 0), (0, 1))]])
SECONDS = 20


def lies_in(box, spot):
    """Whether a spot lies in a box."""
    return len(spot) == len(box) and all(
        as_fraction(low) <= as_fraction(one) <= as_fraction(high) for (low, high), one in zip(box, spot))


def holds_at(net, wish, spot):
    """Whether a wish over the outs holds at a spot."""
    *row, number = whole_wish(wish)
    return weighs(row, come_to(net, spot)[-1]) <= number


def over_ins(net, wishes, pattern):
    """Wishes over the outs as wishes over the ins, by a pattern, the numbers behind the rows."""
    found = []
    for wish in wishes:
        *row, number = whole_wish(wish)
        *own, less = [weighs(row, places) for places in zip(*hidden_and_outs([net], pattern)[1])]
        found.append(own + [number - less])
    return found


def is_none_tree(net, box, wishes, tree):
    """Whether a tree shows that wishes don't meet, looked at end by end."""
    for (word, told), case, pattern, many in cases_of([net], box, tree):
        if word == "empty":
            good = against(case, told)
        else:
            good = word == "against" and many == net.hidden() and against(case + over_ins(net, wishes, pattern), told)
        if many > net.hidden() or not good:
            return False
    return True


def meet(net, box, wishes):
    """Whether some spot keeps all wishes: looked for at the crossings of every case."""
    for pattern in range(2 ** net.hidden()):
        asked = wishes_of([net], box, pattern, net.hidden()) + over_ins(net, wishes, pattern)
        if any(keeps_all(asked, spot) for spot in crossings(asked, len(box))):
            return True
    return False


class AlwaysTest(unittest.TestCase):
    def held_against(self, net, box, wish):
        """What is told of a wish, looked at as the document says; whether it always holds."""
        told = always_holds(net, box, wish)
        self.assertIs(told.__class__, tuple)
        self.assertEqual(len(told), 2)
        self.assertIs(shows_always(net, box, wish, told), True)
        if told[0] == "true":
            self.assertTrue(is_tree([net], box, wish[0], wish[1], told[1]))
            self.assertIs(closes([net], box, wish[0], wish[1], told[1]), True)
            self.assertTrue(all(holds_at(net, wish, spot) for spot in spots_of(Draws(1), box)))
            return True
        self.assertEqual(told[0], "false")
        self.assertTrue(lies_in(box, told[1]))
        self.assertFalse(holds_at(net, wish, told[1]))
        return False

    def test_known_ones(self):
        for row, number, wanted in (((1, 0), 2, True), ((1, 0), "199/100", False), ((1, 0), 3, True), ((-1, 0), 0, True),
                                    ((-1, 0), "-1/100", False), ((1, 1), 3, True), ((1, 1), "299/100", False), ((0, 0), 0, True),
                                    ((0, 0), -1, False), ((0, 0), 1, True), ((-1, -1), -1, True), ((0, -1), 1, True)):
            self.assertIs(self.held_against(TWO, BOX, (row_of(*row), row_of(number)[0])), wanted)
        self.assertEqual(always_holds(TWO, BOX, (row_of(1, 0), (1, 1))), ("false", row_of(-1)))

    def test_drawn_ones(self):
        draws = Draws(271)
        seen = {True: 0, False: 0}
        for at in range(45):
            net = one_net(draws, 1 + draws.below(3), at % 9)
            box = draws.box(net.ins())
            row = draws.row(net.outs())
            number = greatest_at([net], box, row)[0]
            for most, wanted in ((number, True), (minus(number, (1, 10 ** 20)), False), (draws.number(), None)):
                told = self.held_against(net, box, (row, most))
                seen[told] += 1
                if wanted is not None:
                    self.assertIs(told, wanted)
        self.assertGreater(min(seen.values()), 45)

    def test_flat_boxes(self):
        draws = Draws(272)
        for at in range(6):
            net = one_net(draws, 2, at)
            spot = draws.row(2)
            wish = draws.node(net.outs())
            told = self.held_against(net, tuple((one, one) for one in spot), wish)
            self.assertIs(told, holds_at(net, wish, spot))

    def test_asked_again(self):
        draws = Draws(273)
        net = one_net(draws, 2, 5)
        for _ in range(6):
            box, wish = draws.box(2), draws.node(net.outs())
            self.assertEqual(always_holds(net, box, wish), always_holds(net_of(net.told()), box, wish))


class AboveTest(unittest.TestCase):
    def held_against(self, net, box, out):
        """What is told of an out, looked at as the document says; whether it is above all others."""
        told = above_all(net, box, out)
        self.assertIs(told.__class__, tuple)
        self.assertIs(shows_above(net, box, out, told), True)
        if told[0] == "true":
            word, trees = told
            self.assertIs(trees.__class__, tuple)
            self.assertEqual(len(trees), net.outs() - 1)
            others = [at for at in range(net.outs()) if at != out]
            for other, tree in zip(others, trees):
                aim = row_of(*[{other: 1, out: -1}.get(at, 0) for at in range(net.outs())])
                self.assertTrue(is_tree([net], box, aim, NOUGHT, tree))
            for spot in spots_of(Draws(1), box):
                outs = come_to(net, spot)[-1]
                self.assertEqual(outs[out], max(outs))
            return True
        word, other, spot = told
        self.assertEqual(word, "false")
        self.assertIs(other.__class__, int)
        self.assertTrue(lies_in(box, spot))
        outs = come_to(net, spot)[-1]
        self.assertGreater(outs[other], outs[out])
        return False

    def test_known_ones(self):
        self.assertEqual([self.held_against(SAME, BOX, out) for out in range(3)], [False, False, True])
        self.assertEqual([self.held_against(SAME, (row_of(0, 2),), out) for out in range(3)], [True, True, True])
        self.assertEqual([self.held_against(SAME, (row_of(-2, 0),), out) for out in range(3)], [False, False, True])
        self.assertEqual(above_all(SAME, BOX, 0), ("false", 2, row_of(-1)))
        self.assertEqual([self.held_against(TWO, BOX, out) for out in range(2)], [False, False])
        self.assertEqual([self.held_against(TWO, (row_of("1/2", 2),), out) for out in range(2)], [False, True])
        self.assertEqual([self.held_against(TWO, (row_of("499/1000", 2),), out) for out in range(2)], [False, False])

    def test_one_out(self):
        net = Net(1, [[(row_of(1), (0, 1))], [(row_of(1), (0, 1))]])
        self.assertEqual(above_all(net, BOX, 0), ("true", ()))
        self.assertIs(shows_above(net, BOX, 0, ("true", ())), True)
        self.assertEqual(above_all(Net(1, [[(row_of(1), (0, 1))]]), BOX, 0), ("true", ()))

    def test_outs_that_come_to_the_same(self):
        net = Net(1, [[(row_of(1), (2, 1))] * 4])
        self.assertEqual([self.held_against(net, BOX, out) for out in range(4)], [True] * 4)

    def test_drawn_ones(self):
        draws = Draws(274)
        seen = {True: 0, False: 0}
        for at in range(36):
            net = one_net(draws, 1 + draws.below(3), at % 9)
            box = draws.box(net.ins())
            for out in range(net.outs()):
                seen[self.held_against(net, box, out)] += 1
        self.assertGreater(min(seen.values()), 12)

    def test_asked_again(self):
        draws = Draws(275)
        net = one_net(draws, 2, 5)
        for out in range(net.outs()):
            box = draws.box(2)
            self.assertEqual(above_all(net, box, out), above_all(net_of(net.told()), box, out))


class FindTest(unittest.TestCase):
    def held_against(self, net, box, wishes):
        """What is told of wishes, looked at as the document says; whether they meet."""
        kept = list(wishes)
        told = find_spot(net, box, wishes)
        self.assertIs(told.__class__, tuple)
        self.assertEqual(len(told), 2)
        self.assertEqual(told, find_spot(net, box, tuple(wishes)))
        self.assertIs(shows_found(net, box, wishes, told), True)
        self.assertIs(shows_found(net, box, tuple(wishes), told), True)
        self.assertEqual(list(wishes), kept)
        if told[0] == "found":
            self.assertTrue(lies_in(box, told[1]))
            self.assertTrue(all(holds_at(net, wish, told[1]) for wish in wishes))
            return True
        self.assertEqual(told[0], "none")
        self.assertTrue(is_none_tree(net, box, wishes, told[1]))
        return False

    def test_known_ones(self):
        near, far = (row_of(1, 0), (0, 1)), (row_of(-1, 0), (-2, 1))
        self.assertTrue(self.held_against(TWO, BOX, []))
        self.assertTrue(self.held_against(TWO, BOX, ()))
        self.assertTrue(self.held_against(TWO, BOX, [near]))
        self.assertEqual(find_spot(TWO, BOX, [near]), ("found", row_of(1)))
        self.assertEqual(find_spot(TWO, BOX, [far]), ("found", row_of(-1)))
        self.assertFalse(self.held_against(TWO, BOX, [near, far]))
        self.assertFalse(self.held_against(TWO, BOX, [(row_of(1, 0), (-1, 10 ** 20))]))
        self.assertFalse(self.held_against(TWO, BOX, [(row_of(-1, 0), (-2 * 10 ** 20 - 1, 10 ** 20))]))
        self.assertTrue(self.held_against(TWO, BOX, [near] * 8))
        self.assertTrue(self.held_against(TWO, BOX, [near, (row_of(0, 1), (1, 1)), (row_of(0, -1), (-1, 1))]))
        self.assertFalse(self.held_against(TWO, BOX, [near] * 7 + [(row_of(0, 1), (0, 1))]))
        self.assertFalse(self.held_against(TWO, BOX, [(row_of(0, 0), (-1, 1))]))
        self.assertTrue(self.held_against(TWO, BOX, [(row_of(0, 0), (0, 1))]))

    def test_wishes_of_which_each_alone_is_kept(self):
        # The in is at least 1 and a half away from 1, and above nought.
        wishes = [(row_of(-1, 0), (-3, 2)), (row_of(0, -1), (0, 1))]
        self.assertFalse(self.held_against(TWO, BOX, wishes))
        self.assertTrue(self.held_against(TWO, (row_of(-1, "5/2"),), wishes))
        self.assertEqual(find_spot(TWO, (row_of(-1, "5/2"),), wishes), ("found", row_of("5/2")))

    def test_drawn_ones(self):
        draws = Draws(276)
        seen = {True: 0, False: 0}
        for at in range(72):
            net = one_net(draws, 1 + draws.below(3), at % 9)
            box = draws.box(net.ins())
            wishes = [draws.node(net.outs()) for _ in range(draws.below(9))]
            told = self.held_against(net, box, wishes)
            seen[told] += 1
            if at % 9 < 3:
                self.assertIs(told, meet(net, box, wishes))
        self.assertGreater(min(seen.values()), 15)

    def test_wishes_that_meet_in_just_one_spot(self):
        draws = Draws(277)
        for at in range(9):
            ins = 1 + at % 3
            net = Net(ins, [[(row_of(*[int(one == place) for one in range(ins)]), (20, 1)) for place in range(ins)],
                            [(row_of(*[int(one == place) for one in range(ins)]), (-20, 1)) for place in range(ins)]])
            box = (row_of(-5, 5),) * ins
            spot = draws.spot(box)
            wishes = []
            for place, one in enumerate(spot):
                row = row_of(*[int(at_place == place) for at_place in range(ins)])
                wishes += [(row, one), (tuple((-top, bottom) for top, bottom in row), (-one[0], one[1]))]
            self.assertEqual(find_spot(net, box, wishes), ("found", spot))
            self.assertTrue(self.held_against(net, box, wishes))
            wishes[0] = (wishes[0][0], minus(spot[0], (1, 10 ** 12)))
            self.assertFalse(self.held_against(net, box, wishes))

    def test_flat_boxes(self):
        draws = Draws(278)
        for at in range(12):
            net = one_net(draws, 2, at % 6)
            spot = draws.row(2)
            wishes = [draws.node(net.outs()) for _ in range(1 + at % 2)]
            told = self.held_against(net, tuple((one, one) for one in spot), wishes)
            self.assertIs(told, all(holds_at(net, wish, spot) for wish in wishes))


class TimeTest(unittest.TestCase):
    def test_eight_hidden_nodes_over_three_ins(self):
        begun = time.perf_counter()
        box = (row_of(-3, 3),) * 3
        for net in large_nets(279, ([4, 4, 4], [3, 3, 2, 4])):
            AlwaysTest.held_against(self, net, box, (row_of(1, -1, 2, 0), (10 ** 6, 1)))
            for out in range(4):
                AboveTest.held_against(self, net, box, out)
            wishes = [(row_of(*[int(at == out) for at in range(4)]), (-out, 1)) for out in range(4)] * 2
            FindTest.held_against(self, net, box, wishes)
            least = greatest_at([net], box, row_of(-1, 0, 0, 0))[0]
            self.assertFalse(FindTest.held_against(self, net, box, [
                (row_of(1, 0, 0, 0), as_tuple(-as_fraction(least) - 1)), *wishes[:7],
            ]))
        self.assertLess(time.perf_counter() - begun, SECONDS)


class RefusedTest(unittest.TestCase):
    def setUp(self):
        self.nine = Draws(280).net(1, [4, 4, 1, 2])
        self.asks = ((always_holds, shows_always), (above_all, shows_above), (find_spot, shows_found))

    def asked(self, kind, asks, *things):
        """What is found where both functions refuse."""
        ask, shows = asks
        found = refused(self, kind, ask, *things)
        for thing in (("true", ()), ("found", row_of(0)), None):
            again = refused(self, kind, shows, *things, thing)
            if kind is Large:
                self.assertEqual(again, found)
            else:
                self.assertIs(again, found)
        return found

    def test_box_first(self):
        for box in not_boxes() + strange_things() + [SQUARE, BOX * 3]:
            for net in (TWO, self.nine):
                for asks, good in zip(self.asks, ((row_of(1, 0), (0, 1)), 0, [])):
                    for rest in (good, None, 9, [None]):
                        self.assertIs(self.asked(NoBox, asks, net, box, rest), box)

    def test_then_the_wish(self):
        for net in (TWO, self.nine):
            for wish in wrong_wishes(2) + strange_things() + [[(row_of(1, 0), (0, 1))], ((row_of(1, 0), (0, 1)),)]:
                with self.subTest(wish=repr(wish)[:60]):
                    self.assertIs(self.asked(NoWish, self.asks[0], net, BOX, wish), wish)

    def test_then_the_out(self):
        for net in (TWO, self.nine):
            for out in [2, 3] + NOT_COUNTS + strange_things():
                with self.subTest(out=repr(out)[:60]):
                    self.assertIs(self.asked(NoOut, self.asks[1], net, BOX, out), out)
        self.assertIs(self.asked(NoOut, self.asks[1], Net(1, [[(row_of(1), (0, 1))]]), BOX, 1), 1)

    def test_then_the_wishes(self):
        good = (row_of(1, 0), (0, 1))
        for net in (TWO, self.nine):
            for wishes in not_lists() + [[good] * 9, (good,) * 9, [None] * 9, [good] * 16, {good: good}]:
                self.assertIs(self.asked(NoWish, self.asks[2], net, BOX, wishes), wishes)
            for wish in wrong_wishes(2) + strange_things():
                for wishes in ([wish], (good, wish), [good, wish, None], [good] * 7 + [wish], (wish, good, [])):
                    self.assertIs(self.asked(NoWish, self.asks[2], net, BOX, wishes), wish)

    def test_then_too_many_hidden_nodes(self):
        for shape, many in (([4, 4, 1, 2], 9), ([4, 4, 4, 2], 12), ([4, 4, 4, 1], 12)):
            net = Draws(281).net(1, shape)
            wish = (row_of(*[1] * shape[-1]), (0, 1))
            for asks, rest in zip(self.asks, (wish, 0, [wish])):
                self.assertEqual(self.asked(Large, asks, net, BOX, rest), many)
            self.assertEqual(self.asked(Large, self.asks[2], net, BOX, ()), many)


if __name__ == "__main__":
    unittest.main()
