"""Points 2, 3, 6 and 41 to 43: boxes, their wishes, and what a sum comes to in them."""

import itertools
import unittest

from noughtcut.boxes import box_wishes, greatest_of, is_box, is_in, least_of, middle
from noughtcut.errors import NoAim, NoBox
from noughtcut.nets import Net
from noughtcut.numbers import is_row
from tests.things import Draws, as_fraction, as_tuple, refused, row_of, strange_things

BOX = (row_of(-1, 2), row_of(0, 0), row_of("1/3", "1/2"))


def not_boxes():
    """Things that are nearly boxes, but none."""
    span = row_of(0, 1)
    return [
        (), [span], ([(0, 1), (1, 1)],), (span, [(0, 1), (1, 1)]), (span,) * 4, span, (span, span, (span,)),
        (row_of(1, 0),), (span, row_of("1/2", "1/3")), (span, span, row_of(0, -1)), (row_of(0),), (row_of(0, 1, 2),),
        (((0, 1), (2, 2)),), (((0, 2), (1, 1)),), (((0, 1), (1, 0)),), (((0, 1), (1, -1)),), (((-1, -1), (1, 1)),),
        (((False, 1), (1, 1)),), (((0, 1), (1, True)),), (((0, 1), 1),), ((0, 1),), ((0, 1), (0, 1)), ((None, None),),
        ((True, True),), (("0", "1"),), (span, None), (span, ()), ((), span), (((0, 1), [1, 1]),), {0: span}, {span: span},
        "from 0 to 1", Net(1, [[(row_of(1), (0, 1))]]), (Net(1, [[(row_of(1), (0, 1))]]),), ((span,),), (((0, 1), (1, 1, 1)),),
    ]


def spots_of(draws, box):
    """Some spots in a box: corners, the middle and drawn ones."""
    corners = list(itertools.product(*box))
    return corners + [middle(box)] + [draws.spot(box) for _ in range(8)]


def tells(one, spot):
    """What a sum tells at a spot, reckoned by Python's own fractions."""
    return sum((as_fraction(w) * as_fraction(by) for w, by in zip(one[0], spot)), as_fraction(one[1]))


class IsBoxTest(unittest.TestCase):
    def test_boxes(self):
        for box in [BOX, BOX[:1], BOX[1:], (row_of(0, 0),), (row_of(0, 0),) * 3, (((-1, 10 ** 399), (10 ** 399, 1)),)]:
            self.assertIs(is_box(box), True)

    def test_other_things(self):
        for thing in not_boxes() + strange_things():
            with self.subTest(thing=repr(thing)[:60]):
                self.assertIs(is_box(thing), False)

    def test_ends_close_together(self):
        near = (10 ** 399 + 1, 10 ** 399)
        self.assertIs(is_box((((1, 1), near),)), True)
        self.assertIs(is_box(((near, near),)), True)
        self.assertIs(is_box(((near, (1, 1)),)), False)


class IsInTest(unittest.TestCase):
    def test_ends_and_beside_them(self):
        inside = [row_of(-1, 0, "1/3"), row_of(2, 0, "1/2"), row_of(0, 0, "2/5"), row_of("1/7", 0, "1/2")]
        outside = [row_of("-1000001/1000000", 0, "1/3"), row_of("2000001/1000000", 0, "1/2"), row_of(0, "1/9", "2/5"),
                   row_of(0, "-1/9", "2/5"), row_of(0, 0, "1/4"), row_of(0, 0, "51/100"), row_of(9, 9, 9)]
        for spot in inside:
            self.assertIs(is_in(BOX, spot), True)
        for spot in outside:
            self.assertIs(is_in(BOX, spot), False)

    def test_things_that_are_no_spots(self):
        right = row_of(0, 0, "2/5")
        for thing in [right[:2], right + row_of(0), list(right), (right,), right[0], (right[0], right[1], [2, 5]),
                      (right[0], right[1], (4, 10)), (0, 0, 0), ((False, 1), (0, 1), (2, 5)), (), BOX] + strange_things():
            with self.subTest(thing=repr(thing)[:60]):
                self.assertIs(is_in(BOX, thing), False)
        self.assertIs(is_in(BOX[:1], right), False)
        self.assertIs(is_in(BOX[:1], right[:1]), True)

    def test_of_drawn_boxes(self):
        draws = Draws(41)
        for at in range(60):
            box = draws.box(1 + at % 3)
            for spot in spots_of(draws, box):
                self.assertIs(is_in(box, spot), True)
            spot = draws.row(len(box))
            wanted = all(as_fraction(low) <= as_fraction(one) <= as_fraction(high) for (low, high), one in zip(box, spot))
            self.assertIs(is_in(box, spot), wanted)


class MiddleTest(unittest.TestCase):
    def test_it_is_halfway(self):
        self.assertEqual(middle(BOX), row_of("1/2", 0, "5/12"))
        self.assertEqual(middle((row_of(3, 3),)), row_of(3))
        draws = Draws(42)
        for at in range(40):
            box = draws.box(1 + at % 3)
            wanted = tuple(as_tuple((as_fraction(low) + as_fraction(high)) / 2) for low, high in box)
            self.assertEqual(middle(box), wanted)
            self.assertIs(is_row(middle(box), len(box)), True)


class WishesTest(unittest.TestCase):
    def test_known_ones(self):
        self.assertEqual(box_wishes((row_of(-1, 2),)), [(row_of(1), (2, 1)), (row_of(-1), (1, 1))])
        self.assertEqual(
            box_wishes((row_of(-1, 2), row_of(0, "1/2"))),
            [(row_of(1, 0), (2, 1)), (row_of(0, 1), (1, 2)), (row_of(-1, 0), (1, 1)), (row_of(0, -1), (0, 1))],
        )
        self.assertEqual(
            box_wishes(BOX),
            [
                (row_of(1, 0, 0), (2, 1)), (row_of(0, 1, 0), (0, 1)), (row_of(0, 0, 1), (1, 2)),
                (row_of(-1, 0, 0), (1, 1)), (row_of(0, -1, 0), (0, 1)), (row_of(0, 0, -1), (-1, 3)),
            ],
        )

    def test_they_hold_at_just_the_spots_in_the_box(self):
        draws = Draws(43)
        for at in range(60):
            box = draws.box(1 + at % 3)
            wishes = box_wishes(box)
            self.assertEqual(len(wishes), 2 * len(box))
            for spot in spots_of(draws, box) + [draws.row(len(box)) for _ in range(6)]:
                kept = all(tells((row, (0, 1)), spot) <= as_fraction(number) for row, number in wishes)
                self.assertIs(kept, is_in(box, spot))

    def test_the_list_is_the_askers_own(self):
        wishes = box_wishes(BOX)
        again = list(wishes)
        wishes.clear()
        self.assertEqual(box_wishes(BOX), again)


class LeastAndGreatestTest(unittest.TestCase):
    def test_known_ones(self):
        one = (row_of(2, -3, "-1/2"), (1, 1))
        self.assertEqual(least_of(BOX, one), (as_tuple("-5/4"), row_of(-1, 0, "1/2")))
        self.assertEqual(greatest_of(BOX, one), (as_tuple("29/6"), row_of(2, 0, "1/3")))

    def test_at_low_where_the_row_has_nought(self):
        box = (row_of(-1, 2), row_of(3, 5), row_of("1/3", "1/2"))
        for row, least, greatest in (
            ((0, 0, 0), (-1, 3, "1/3"), (-1, 3, "1/3")),
            ((1, 0, 0), (-1, 3, "1/3"), (2, 3, "1/3")),
            ((0, -1, 0), (-1, 5, "1/3"), (-1, 3, "1/3")),
            ((0, 0, 1), (-1, 3, "1/3"), (-1, 3, "1/2")),
            ((-1, 0, -1), (2, 3, "1/2"), (-1, 3, "1/3")),
        ):
            one = (row_of(*row), (7, 1))
            self.assertEqual(least_of(box, one)[1], row_of(*least))
            self.assertEqual(greatest_of(box, one)[1], row_of(*greatest))

    def test_flat_boxes(self):
        box = (row_of(2, 2), row_of(-1, -1))
        for ask in (least_of, greatest_of):
            self.assertEqual(ask(box, (row_of(3, 4), (1, 2))), ((5, 2), row_of(2, -1)))

    def test_no_spot_comes_to_less_or_more(self):
        draws = Draws(44)
        for at in range(80):
            box = draws.box(1 + at % 3)
            one = draws.node(len(box))
            least, low = least_of(box, one)
            greatest, high = greatest_of(box, one)
            for number, spot in ((least, low), (greatest, high)):
                self.assertEqual(as_fraction(number), tells(one, spot))
                self.assertTrue(all(part in span for part, span in zip(spot, box)))
            for spot in spots_of(draws, box):
                self.assertTrue(as_fraction(least) <= tells(one, spot) <= as_fraction(greatest))
            for row, span, below, above in zip(one[0], box, low, high):
                if row == (0, 1):
                    self.assertEqual((below, above), (span[0], span[0]))

    def test_no_sum_over_the_places(self):
        right = row_of(1, 2, 3)
        things = [(right[:2], (0, 1)), (right + right, (0, 1)), (list(right), (0, 1)), [right, (0, 1)], (right, 0), (right,),
                  (right, (0, 2)), (right, [0, 1]), (right, (0, 1), (0, 1)), right, (right, None), ((1, 2, 3), (0, 1)), ()]
        for thing in things + strange_things():
            for ask in (least_of, greatest_of):
                with self.subTest(thing=repr(thing)[:60]):
                    self.assertIs(refused(self, NoAim, ask, BOX, thing), thing)


class NoBoxTest(unittest.TestCase):
    def test_what_is_no_box_is_refused_first(self):
        for thing in not_boxes() + strange_things():
            with self.subTest(thing=repr(thing)[:60]):
                for ask in (middle, box_wishes):
                    self.assertIs(refused(self, NoBox, ask, thing), thing)
                for more in (row_of(0), None, (row_of(0), (0, 1))):
                    for ask in (is_in, least_of, greatest_of):
                        self.assertIs(refused(self, NoBox, ask, thing, more), thing)


if __name__ == "__main__":
    unittest.main()
