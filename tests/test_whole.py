"""Point 8: the whole promise, row by row, over all files together."""

import unittest

from noughtcut.alike import shows_alike, told_alike
from noughtcut.boxes import box_wishes, is_in, middle
from noughtcut.cases import sums_by, wishes_by
from noughtcut.desk import Desk
from noughtcut.handing import handed_on, states_of
from noughtcut.needless import hushed, needless_nodes, needless_wires, slimmed, without_wire
from noughtcut.nets import node_net, same_net
from noughtcut.nettext import read_box, read_net, show_box, show_net
from noughtcut.numbers import is_less, minus, plus, times, weigh
from noughtcut.pieces import cover_of, is_cover, pieces_of
from noughtcut.settling import settle, settle_strictly
from noughtcut.sums import sum_at
from noughtcut.tighter import tightened
from noughtcut.together import behind, beside, opposite
from noughtcut.trees import closes, greatest_at, least_at, node_state
from noughtcut.treetext import read_tree, show_tree
from noughtcut.wanted import above_all, always_holds, find_spot, shows_above, shows_always, shows_found
from tests.desking import desk_with, one_line, written
from tests.netting import scaled
from tests.test_boxes import spots_of
from tests.things import Draws, as_fraction, as_tuple, row_of
from tests.treeing import one_net

MINUS_ONE = (-1, 1)


def questions(seed, many, most=5):
    """Nets with at most so many hidden nodes, boxes, spots in them, and draws."""
    draws = Draws(seed)
    for at in range(many):
        net = one_net(draws, 1 + draws.below(3), at % (most + 1))
        box = draws.box(net.ins())
        yield net, box, spots_of(draws, box), draws


def turned(row):
    """A row taken from nought."""
    return tuple(times(MINUS_ONE, one) for one in row)


class WholeTest(unittest.TestCase):
    def test_the_greatest_and_the_least(self):
        for net, box, spots, draws in questions(341, 18, 8):
            aim = draws.row(net.outs())
            number, spot, tree = greatest_at([net], box, aim)
            low, low_spot, low_tree = least_at([net], box, aim)
            self.assertIs(is_in(box, spot) and is_in(box, low_spot), True)
            self.assertEqual((weigh(aim, net.outs_at(spot)), weigh(aim, net.outs_at(low_spot))), (number, low))
            self.assertIs(closes([net], box, aim, number, tree), True)
            self.assertIs(closes([net], box, turned(aim), times(MINUS_ONE, low), low_tree), True)
            self.assertIs(closes([net], box, aim, minus(number, (1, 10 ** 9)), tree), False)
            for one in spots:
                self.assertTrue(as_fraction(low) <= as_fraction(weigh(aim, net.outs_at(one))) <= as_fraction(number))
            # The opposite net's greatest is the net's least, and the greatest is that of the pieces, too.
            self.assertEqual(times(MINUS_ONE, greatest_at([opposite(net)], box, aim)[0]), low)
            self.assertIs(always_holds(net, box, (aim, number))[0], "true")
            self.assertEqual(find_spot(net, box, [(turned(aim), times(MINUS_ONE, number))])[0], "found")

    def test_bounds(self):
        for net, box, spots, _ in questions(342, 18, 8):
            handed, tighter, states = handed_on(net, box), tightened(net, box), states_of(net, box)
            for spot in spots:
                found = net.sums_at(spot)
                for layer, sums in enumerate(found):
                    for node, one in enumerate(sums):
                        low, high, _, _ = handed[layer][node]
                        under, over, near_low, near_high = tighter[layer][node]
                        for least, most in ((low, high), (near_low, near_high), (sum_at(under, spot), sum_at(over, spot))):
                            self.assertTrue(as_fraction(least) <= as_fraction(one) <= as_fraction(most))
                        self.assertIs(is_less(near_low, low) or is_less(high, near_high), False)
                for (layer, node), state in zip(net.places(), states):
                    self.assertFalse(state == "cut" and found[layer][node][0] > 0)
                    self.assertFalse(state == "kept" and found[layer][node][0] < 0)
            for (layer, node), state in zip(net.places(), states):
                if state != "open":
                    self.assertIn(node_state(net, box, layer, node)[0], ("cut", state))
                self.assertLessEqual(
                    as_fraction(greatest_at([node_net(net, layer, node)], box, row_of(1))[0]), as_fraction(tighter[layer][node][3]))

    def test_two_nets(self):
        words = []
        for net, box, spots, draws in questions(343, 20, 4):
            by_two = scaled(net, 0, 0, (3, 2)) if net.hidden() else net
            for other in (opposite(opposite(net)), by_two, opposite(net), draws.net(net.ins(), [net.outs()])):
                told = told_alike(net, other, box)
                words.append(told[0])
                self.assertIs(shows_alike(net, other, box, told), True)
                if told[0] == "alike":
                    self.assertTrue(all(net.outs_at(spot) == other.outs_at(spot) for spot in spots))
                else:
                    self.assertNotEqual(net.outs_at(told[2])[told[1]], other.outs_at(told[2])[told[1]])
        self.assertGreater(min(words.count(word) for word in ("alike", "unlike")), 15)

    def test_what_may_go(self):
        for net, box, spots, _ in questions(344, 20, 4):
            for change, found in ((without_wire, needless_wires(net, box)), (hushed, needless_nodes(net, box))):
                for one in found:
                    left = change(net, *one)
                    self.assertTrue(all(left.outs_at(spot) == net.outs_at(spot) for spot in spots))
                    self.assertIs(same_net(left, net), False)
            slim, gone = slimmed(net, box)
            self.assertEqual(needless_wires(slim, box), [])
            self.assertEqual(told_alike(slim, net, box)[0], "alike")
            desk = desk_with({"a": net}, {"b": box})
            self.assertEqual(desk.say("needless a b").count(";") + (desk.say("needless a b") != "-"), len(needless_wires(net, box)))
            desk.say("slim a b")
            self.assertEqual(desk.say("show a"), one_line(show_net(slim)))
            self.assertEqual(desk.say("slim a b"), "-")

    def test_pieces(self):
        for net, box, spots, _ in questions(345, 18, 8):
            pieces = {pattern: (spot, sums) for pattern, spot, sums in pieces_of(net, box)}
            for spot in spots:
                self.assertEqual(tuple(sum_at(one, spot) for one in pieces[net.pattern_at(spot)][1]), net.outs_at(spot))
            for pattern, (spot, sums) in pieces.items():
                self.assertIs(is_in(box, spot), True)
                self.assertEqual(net.pattern_at(spot), pattern)
                self.assertEqual(list(sums), sums_by(net, pattern)[-1])
            # A pattern that isn't there has no spot: its wishes, those of the kept nodes strictly, don't meet.
            if net.hidden() < 5:
                for pattern in range(2 ** net.hidden()):
                    wishes = wishes_by([net], box, pattern, net.hidden())[2 * len(box):]
                    kept = [wish for at, wish in enumerate(wishes) if pattern >> at & 1]
                    cut = [wish for at, wish in enumerate(wishes) if not pattern >> at & 1]
                    self.assertIs(settle_strictly(box, cut, kept).has_spot(), pattern in pieces)

    def test_wishes(self):
        for net, box, spots, draws in questions(346, 30, 6):
            wishes = [draws.node(net.outs()) for _ in range(1 + draws.below(3))]
            for wish in wishes:
                word, shown = always_holds(net, box, wish)
                self.assertIs(shows_always(net, box, wish, (word, shown)), True)
                broken = [spot for spot in spots if is_less(wish[1], weigh(wish[0], net.outs_at(spot)))]
                self.assertFalse(word == "true" and broken)
                # Where it always holds, the wish turned about is found nowhere but just on it.
                turn = (turned(wish[0]), minus(times(MINUS_ONE, wish[1]), (1, 10 ** 9)))
                self.assertFalse(word == "true" and find_spot(net, box, [turn])[0] == "found")
            told = find_spot(net, box, wishes)
            self.assertIs(shows_found(net, box, wishes, told), True)
            for spot in spots:
                if all(not is_less(wish[1], weigh(wish[0], net.outs_at(spot))) for wish in wishes):
                    self.assertEqual(told[0], "found")
            for out in range(net.outs()):
                above = above_all(net, box, out)
                self.assertIs(shows_above(net, box, out, above), True)
                aims = [row_of(*[{at: 1, out: -1}.get(place, 0) for place in range(net.outs())]) for at in range(net.outs()) if at != out]
                self.assertEqual(above[0] == "true", all(greatest_at([net], box, aim)[0][0] <= 0 for aim in aims))

    def test_nets_put_together(self):
        draws = Draws(347)
        for at in range(15):
            one = draws.net(2, [1 + at % 3, 1 + at % 2])
            other = draws.net(one.outs(), [2, 2])
            again = draws.net(2, [1, 2])
            box = draws.box(2)
            after, both = behind(one, other), beside(one, again)
            for spot in spots_of(draws, box):
                self.assertEqual(after.outs_at(spot), other.outs_at(one.outs_at(spot)))
                self.assertEqual(both.outs_at(spot), one.outs_at(spot) + again.outs_at(spot))
            # What is asked of both beside one another is what is asked of a list of the two.
            aim = draws.row(both.outs())
            self.assertEqual(greatest_at([both], box, aim)[0], greatest_at([one, again], box, aim)[0])
            desk = desk_with({"one": one, "other": other, "again": again}, {"b": box})
            desk.say("behind after one other")
            desk.say("beside both one again")
            spot = middle(box)
            self.assertEqual(desk.say(f"out after {written(spot)}"), written(after.outs_at(spot)))
            self.assertEqual(desk.say(f"out both {written(spot)}"), written(both.outs_at(spot)))

    def test_texts(self):
        for net, box, _, draws in questions(348, 18, 6):
            self.assertIs(same_net(read_net(show_net(net)), net), True)
            self.assertEqual(read_box(show_box(box)), box)
            aim = draws.row(net.outs())
            trees = [greatest_at([net], box, aim)[2], cover_of(net, box), find_spot(net, box, [(turned(aim), (0, 1))])[1]]
            if net.hidden() < 4:
                trees.append(told_alike(net, net, box)[1])
            for tree in trees:
                if isinstance(tree[0], str):
                    self.assertEqual(read_tree(show_tree(tree)), tree)

    def test_papers_that_are_read_again(self):
        for net, box, _, draws in questions(349, 18, 6):
            aim = draws.row(net.outs())
            number, _, tree = greatest_at([net], box, aim)
            desk = Desk()
            desk.say(f"net a {one_line(show_net(net))}")
            desk.say(f"box b {one_line(show_box(box))}")
            paper = read_tree(desk.say(f"paper a b {written(aim)}").replace(" / ", "\n"))
            self.assertEqual(paper, tree)
            self.assertIs(closes([net], box, aim, number, paper), True)
            self.assertIs(shows_always(net, box, (aim, number), ("true", paper)), True)
            self.assertIs(is_cover(net, box, read_tree(show_tree(cover_of(net, box)))), True)
            self.assertEqual(desk.say(f"most a b {written(aim)}").split(" ")[0], written((number,)))

    def test_readers_believe_nothing(self):
        # What a reader lets by of another question's papers is so for that question, too.
        for net, box, spots, draws in questions(350, 20, 4):
            other = draws.net(net.ins(), [len(nodes) for nodes in net.layers_told()])
            aim, wish = draws.row(net.outs()), draws.node(net.outs())
            number, _, tree = greatest_at([other], box, aim)
            if closes([net], box, aim, number, tree):
                self.assertTrue(all(not is_less(number, weigh(aim, net.outs_at(spot))) for spot in spots))
            if is_cover(net, box, cover_of(other, box)):
                self.assertEqual([piece[0] for piece in pieces_of(net, box)], [piece[0] for piece in pieces_of(other, box)])
            if shows_alike(net, other, box, told_alike(other, other, box)):
                self.assertEqual(told_alike(net, other, box)[0], "alike")
            self.assertEqual(shows_always(net, box, wish, always_holds(other, box, wish)),
                             self.is_so(net, box, wish, always_holds(other, box, wish)))
            answer = settle(box, [], row_of(1) * len(box))
            self.assertIs(answer.shows(box, [], row_of(1) * len(box)), True)
            self.assertEqual(len(answer.multiples), len(box_wishes(box)))

    def is_so(self, net, box, wish, told):
        """Whether what is told of a wish is so: by the spot, or by the program's own reader of trees."""
        if told[0] == "false":
            return is_less(wish[1], weigh(wish[0], net.outs_at(told[1])))
        return closes([net], box, wish[0], wish[1], told[1])

    def test_numbers_add_up(self):
        for net, box, _, draws in questions(351, 8, 4):
            one, other = draws.row(net.outs()), draws.row(net.outs())
            both = tuple(plus(mine, its) for mine, its in zip(one, other))
            apart = plus(greatest_at([net], box, one)[0], greatest_at([net], box, other)[0])
            self.assertLessEqual(as_fraction(greatest_at([net], box, both)[0]), as_fraction(apart))
            self.assertEqual(as_tuple(as_fraction(apart)), apart)


if __name__ == "__main__":
    unittest.main()
