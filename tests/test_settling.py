"""Points 5 to 7 and 44: wishes settled, a Most or an Empty."""

import unittest

from noughtcut.errors import NoAim, NoBox, NoWish
from noughtcut.numbers import is_row
from noughtcut.settling import Empty, Most, settle
from tests.test_boxes import not_boxes
from tests.things import Draws, as_fraction, refused, row_of, strange_things
from tests.wishing import (
    asked_of,
    come,
    drawn_questions,
    keeps_all,
    most_of,
    not_lists,
    through,
    turned,
    weighs,
    wrong_wishes,
)

BOX = (row_of(0, 1), row_of(-1, 2))
WISH = (row_of(1, 1), (1, 1))
UNDER = (row_of(1, 0), (-1, 1))


class SettleTest(unittest.TestCase):
    def held_against(self, box, wishes, aim, answer):
        """All that the document says of the answer."""
        many = len(box)
        asked = asked_of(box, wishes)
        self.assertIs(is_row(answer.multiples, len(asked)), True)
        self.assertTrue(all(multiple[0] >= 0 for multiple in answer.multiples))
        total = come(asked, answer.multiples)
        if isinstance(answer, Empty):
            self.assertIs(answer.__class__, Empty)
            self.assertEqual(total[:-1], [0] * many)
            self.assertLess(total[-1], 0)
            return
        self.assertIs(answer.__class__, Most)
        self.assertIs(is_row(answer.spot, many), True)
        spot = [as_fraction(one) for one in answer.spot]
        own = [as_fraction(one) for one in aim]
        self.assertTrue(keeps_all(asked, spot))
        self.assertEqual(total, own + [weighs(own, spot)])

    def test_known_ones(self):
        answer = settle(BOX, [WISH], row_of(1, 2))
        self.assertIsInstance(answer, Most)
        self.assertEqual(answer.spot, row_of(0, 1))
        self.held_against(BOX, [WISH], row_of(1, 2), answer)
        self.assertEqual(settle(BOX, [], row_of(1, -1)).spot, row_of(1, -1))
        self.assertEqual(settle(BOX, (), row_of(1, -1)).multiples, row_of(1, 0, 0, 1))
        self.assertIsInstance(settle(BOX, [UNDER], row_of(1, 1)), Empty)
        self.held_against(BOX, [UNDER], row_of(1, 1), settle(BOX, [UNDER], row_of(1, 1)))

    def test_drawn_ones(self):
        kinds = {Most: 0, Empty: 0}
        for box, wishes, aim in drawn_questions(51, 400):
            answer = settle(box, wishes, aim)
            with self.subTest(box=box, wishes=wishes, aim=aim):
                self.held_against(box, wishes, aim, answer)
                most = most_of(box, wishes, aim)
                self.assertIs(isinstance(answer, Empty), most is None)
                if most is not None:
                    own = [as_fraction(one) for one in aim]
                    self.assertEqual(weighs(own, [as_fraction(one) for one in answer.spot]), most)
            kinds[answer.__class__] += 1
        self.assertGreater(min(kinds.values()), 60)

    def test_sixteen_wishes(self):
        draws = Draws(52)
        for at in range(30):
            box = draws.box(1 + at % 3)
            aim = draws.row(len(box))
            spot = draws.spot(box)
            for wishes in ([draws.node(len(box)) for _ in range(16)], [through(draws, spot) for _ in range(16)]):
                self.held_against(box, wishes, aim, settle(box, wishes, aim))
                self.held_against(box, tuple(wishes), aim, settle(box, tuple(wishes), aim))

    def test_wishes_that_all_go_through_one_corner(self):
        draws = Draws(53)
        box = (row_of(0, 1),) * 3
        for corner in (row_of(0, 0, 0), row_of(1, 0, 1), row_of(1, 1, 1)):
            for _ in range(10):
                wishes = [through(draws, corner) for _ in range(8)]
                for aim in (row_of(1, 1, 1), row_of(-1, 2, 0), row_of(0, 0, 0)):
                    answer = settle(box, wishes, aim)
                    self.assertIsInstance(answer, Most)
                    self.held_against(box, wishes, aim, answer)

    def test_the_walk_from_corner_to_corner_ends(self):
        # Among these are some in which a walk with another choice where wishes come first alike goes round for ever.
        box = (row_of(-1, 1),) * 3
        for seed in (156, 188, 225, 409, 805, 820, *range(100)):
            draws = Draws(seed)
            spot = draws.one_of([row_of(0, 0, 0), row_of(1, 1, 1), row_of(-1, 1, 1)])
            wishes = [through(draws, spot) for _ in range(8 + draws.below(9))]
            aim = draws.one_of([row_of(0, 0, 0), row_of(1, 0, 0), row_of(-1, 1, 0), draws.row(3)])
            self.held_against(box, wishes, aim, settle(box, wishes, aim))

    def test_wishes_that_stand_twice_or_are_turned_about(self):
        for wishes in ([WISH, WISH], [WISH, turned(WISH)], [WISH, turned(WISH), WISH], [UNDER, UNDER], [WISH, UNDER, turned(UNDER)]):
            for aim in (row_of(1, 0), row_of(0, -1), row_of(0, 0), row_of(-3, "1/2")):
                answer = settle(BOX, wishes, aim)
                self.held_against(BOX, wishes, aim, answer)
                self.assertIs(isinstance(answer, Empty), UNDER in wishes)

    def test_wishes_of_noughts(self):
        for number, kind in (((0, 1), Most), ((1, 9), Most), ((-1, 9), Empty)):
            wishes = [WISH, (row_of(0, 0), number)]
            answer = settle(BOX, wishes, row_of(1, 1))
            self.assertIsInstance(answer, kind)
            self.held_against(BOX, wishes, row_of(1, 1), answer)

    def test_only_just_kept_and_only_just_not(self):
        corner = (row_of(-1, -1), (-3, 1))
        answer = settle(BOX, [corner], row_of(-1, -1))
        self.assertEqual(answer.spot, row_of(1, 2))
        self.held_against(BOX, [corner], row_of(-1, -1), answer)
        beyond = (row_of(-1, -1), (-(3 * 10 ** 30 + 1), 10 ** 30))
        self.assertIsInstance(settle(BOX, [beyond], row_of(-1, -1)), Empty)

    def test_flat_boxes(self):
        box = (row_of("1/2", "1/2"), row_of(0, 0), row_of(-3, -3))
        for wishes, kind in (([], Most), ([(row_of(2, 5, 0), (1, 1))], Most), ([(row_of(2, 5, 0), (99, 100))], Empty)):
            answer = settle(box, wishes, row_of(1, -1, 4))
            self.assertIsInstance(answer, kind)
            self.held_against(box, wishes, row_of(1, -1, 4), answer)

    def test_an_aim_of_noughts(self):
        answer = settle(BOX, [WISH], row_of(0, 0))
        self.assertIsInstance(answer, Most)
        self.held_against(BOX, [WISH], row_of(0, 0), answer)

    def test_asked_again(self):
        for box, wishes, aim in drawn_questions(54, 40):
            kept = list(wishes)
            first = settle(box, wishes, aim)
            again = settle(box, tuple(wishes), aim)
            self.assertEqual(wishes, kept)
            self.assertIs(first.__class__, again.__class__)
            self.assertEqual(vars(first), vars(again))


class RefusedTest(unittest.TestCase):
    def test_box_first(self):
        for thing in not_boxes() + strange_things():
            for wishes, aim in (([], row_of(0)), (None, None), ([None], row_of(0, 0)), ([WISH] * 17, 0)):
                self.assertIs(refused(self, NoBox, settle, thing, wishes, aim), thing)

    def test_wishes_that_are_no_list_or_too_many(self):
        for wishes in not_lists() + [[WISH] * 17, (WISH,) * 17, [None] * 17, [WISH] * 40]:
            for aim in (row_of(0, 0), None, []):
                with self.subTest(wishes=repr(wishes)[:60]):
                    self.assertIs(refused(self, NoWish, settle, BOX, wishes, aim), wishes)

    def test_the_first_thing_that_is_no_wish(self):
        for thing in wrong_wishes(2) + strange_things():
            for wishes in ([thing], (thing,), [WISH, thing], [WISH] * 15 + [thing], [WISH, thing, None], [thing, 0, thing]):
                for aim in (row_of(0, 0), None):
                    with self.subTest(thing=repr(thing)[:60]):
                        self.assertIs(refused(self, NoWish, settle, BOX, wishes, aim), thing)

    def test_no_aim(self):
        right = row_of(1, 2)
        for aim in [right[:1], right + right, list(right), (1, 2), (right, (0, 1)), ((1, 1), (2, 2)), right[0]] + strange_things():
            for wishes in ([], [WISH] * 16, (WISH,)):
                with self.subTest(aim=repr(aim)[:60]):
                    self.assertIs(refused(self, NoAim, settle, BOX, wishes, aim), aim)


class LongNumbersTest(unittest.TestCase):
    def test_sixteen_wishes_of_thirty_figures(self):
        draws = Draws(55)
        for at in range(6):
            box = tuple(self.span(draws.long_number(30)) for _ in range(3))
            wishes = [(tuple(draws.long_number(30) for _ in range(3)), draws.long_number(30)) for _ in range(16)]
            if at % 2:
                wishes = [(row, (abs(number[0]), number[1])) for row, number in wishes]
            aim = tuple(draws.long_number(30) for _ in range(3))
            answer = settle(box, wishes, aim)
            self.assertIs(answer.shows(box, wishes, aim), True)

    def test_four_hundred_figures(self):
        draws = Draws(56)
        box = tuple(self.span(draws.long_number(400)) for _ in range(3))
        wishes = [(tuple(draws.long_number(400) for _ in range(3)), draws.long_number(400)) for _ in range(5)]
        aim = tuple(draws.long_number(400) for _ in range(3))
        answer = settle(box, wishes, aim)
        self.assertIs(answer.shows(box, wishes, aim), True)

    def span(self, one):
        """A tuple of a low and a high on both sides of nought."""
        return ((-abs(one[0]), one[1]), (abs(one[0]), one[1]))


if __name__ == "__main__":
    unittest.main()
