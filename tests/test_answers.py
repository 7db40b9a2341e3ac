"""Point 45: answers made by anybody, and whether they show what they tell."""

import unittest

from noughtcut.errors import NoAim, NoBox, NoWish
from noughtcut.settling import Empty, Inside, Most, Outside, Settled, settle
from tests.test_boxes import not_boxes
from tests.things import as_fraction, as_tuple, refused, row_of, strange_things
from tests.wishing import drawn_questions, not_lists, wrong_wishes

BOX = (row_of(0, 1), row_of(-1, 2))
WISH = (row_of(1, 1), (1, 1))
UNDER = (row_of(1, 0), (-1, 1))
AIM = row_of(1, 2)
SPOT = row_of(0, 1)
# The aim is the wish, once, the high of the second place not at all, the low of the first place once, and so on.
MULTIPLES = row_of(0, 0, 1, 0, 2)
NONE = row_of(0, 0, 1, 0, 1)


def moved(row, at, by):
    """A row with one fraction moved."""
    return row[:at] + (as_tuple(as_fraction(row[at]) + by),) + row[at + 1:]


def bent(row):
    """Things near to a row that are no row, or one with another length."""
    things = [list(row), row[1:], row + row_of(0), (row,), [], (), None, True, 0, "", {}, dict(enumerate(row))]
    for at in range(len(row)):
        top, bottom = row[at]
        for other in ([top, bottom], (2 * top, 2 * bottom), (top, -bottom), (top, True), top, None, str(top), ((top, bottom),)):
            # (1, True) is equal to (1, 1), yet it is no fraction.
            things.append(row[:at] + (other,) + row[at + 1:])
    return things


class KindsTest(unittest.TestCase):
    def test_they_stand_straight_under_settled(self):
        for kind in (Most, Empty, Inside, Outside):
            self.assertEqual(kind.__bases__, (Settled,))
        self.assertEqual(Settled.__bases__, (object,))

    def test_who_has_a_spot(self):
        for thing in strange_things():
            for answer, wanted in ((Settled(), False), (Most(thing, thing), True), (Empty(thing), False),
                                   (Inside(thing), True), (Outside(thing), False)):
                self.assertIs(answer.has_spot(), wanted)

    def test_fields_are_the_very_things(self):
        for one in strange_things():
            for other in ([], one, {"a": []}):
                answer = Most(one, other)
                self.assertIs(answer.spot, one)
                self.assertIs(answer.multiples, other)
                self.assertEqual(sorted(vars(answer)), ["multiples", "spot"])
            for kind, field in ((Empty, "multiples"), (Inside, "spot"), (Outside, "multiples")):
                answer = kind(one)
                self.assertIs(getattr(answer, field), one)
                self.assertEqual(list(vars(answer)), [field])

    def test_a_plain_one_shows_nothing_whatever_is_handed_in(self):
        for thing in strange_things() + not_boxes():
            self.assertIs(Settled().shows(thing, thing, thing), False)
        self.assertIs(Settled().shows(BOX, [WISH], AIM), False)
        self.assertIs(Settled().shows(BOX, [UNDER], AIM), False)
        self.assertEqual(vars(Settled()), {})


class MostTest(unittest.TestCase):
    def test_what_was_told_is_shown(self):
        for box, wishes, aim in drawn_questions(61, 200):
            kept = list(wishes)
            answer = settle(box, wishes, aim)
            self.assertIs(answer.shows(box, wishes, aim), True)
            self.assertIs(answer.shows(box, tuple(wishes), aim), True)
            self.assertEqual(wishes, kept)

    def test_by_hand(self):
        self.assertIs(Most(SPOT, MULTIPLES).shows(BOX, [WISH], AIM), True)
        self.assertIs(Most(SPOT, MULTIPLES).shows(BOX, (WISH,), AIM), True)
        self.assertIs(Most(row_of(1, 2), row_of(1, 2, 0, 0)).shows(BOX, [], AIM), True)
        self.assertIs(Most(row_of(0, 2), row_of(0, 0, 0, 0)).shows(BOX, [], row_of(0, 0)), True)

    def test_a_spot_that_is_moved(self):
        for at in (0, 1):
            for by in (1, -1, as_fraction((1, 1000)), as_fraction((-1, 1000)), 7, -7):
                self.assertIs(Most(moved(SPOT, at, by), MULTIPLES).shows(BOX, [WISH], AIM), False)
        # The aim weighs it as much, but it lies beside the box.
        self.assertIs(Most(row_of(-2, 2), MULTIPLES).shows(BOX, [WISH], AIM), False)
        self.assertIs(Most(row_of(2, 0), MULTIPLES).shows(BOX, [WISH], AIM), False)
        # It lies in the box and the aim weighs it as much, but it doesn't keep the wish.
        self.assertIs(Most(row_of("1/2", 1), row_of(0, 1, 0, 0, 0)).shows(BOX, [WISH], row_of(0, 1)), False)
        self.assertIs(Most(row_of(1, 1), row_of(1, 0, 0, 0, 0)).shows(BOX, [WISH], row_of(1, 0)), False)
        self.assertIs(Most(row_of(1, 0), row_of(1, 0, 0, 0, 0)).shows(BOX, [WISH], row_of(1, 0)), True)

    def test_multiples_that_are_bent(self):
        for at in range(5):
            for by in (1, -1, as_fraction((1, 1000)), as_fraction((-1, 1000))):
                self.assertIs(Most(SPOT, moved(MULTIPLES, at, by)).shows(BOX, [WISH], AIM), False)

    def test_multiples_below_nought(self):
        # The rows come to the aim, and the numbers to what it weighs the spot, but one is taken less than nought times.
        flat = (row_of(1, 1), row_of(0, 0))
        self.assertIs(Most(row_of(1, 0), row_of(2, 0, 1, 0)).shows(flat, [], row_of(1, 0)), True)
        self.assertIs(Most(row_of(1, 0), row_of(0, 0, -1, 0)).shows(flat, [], row_of(1, 0)), False)
        self.assertIs(Most(row_of(1, 0), row_of(1, -1, 0, -1)).shows(flat, [], row_of(1, 0)), False)

    def test_numbers_that_come_to_more(self):
        # A spot that keeps all, rows that come to the aim, but a spot is weighed more.
        self.assertIs(Most(row_of(0, 0), MULTIPLES).shows(BOX, [WISH], AIM), False)
        self.assertIs(Most(SPOT, row_of(1, 2, 0, 0, 0)).shows(BOX, [WISH], AIM), False)
        self.assertIs(Most(SPOT, row_of(1, 0, 0, 0, 0)).shows(BOX, [WISH], AIM), False)

    def test_things_that_are_no_rows(self):
        for thing in bent(SPOT) + strange_things():
            with self.subTest(thing=repr(thing)[:60]):
                self.assertIs(Most(thing, MULTIPLES).shows(BOX, [WISH], AIM), False)
        for thing in bent(MULTIPLES) + strange_things():
            with self.subTest(thing=repr(thing)[:60]):
                self.assertIs(Most(SPOT, thing).shows(BOX, [WISH], AIM), False)

    def test_of_another_question(self):
        answer = settle(BOX, [WISH], AIM)
        self.assertIs(answer.shows(BOX, [WISH], row_of(1, 1)), False)
        self.assertIs(answer.shows(BOX, [WISH], row_of(2, 4)), False)
        self.assertIs(answer.shows(BOX, [], AIM), False)
        self.assertIs(answer.shows(BOX, [WISH, WISH], AIM), False)
        self.assertIs(answer.shows(BOX, [UNDER], AIM), False)
        self.assertIs(answer.shows(BOX, [(row_of(1, 1), (2, 1))], AIM), False)
        self.assertIs(answer.shows((row_of(-1, 1), row_of(-1, 2)), [WISH], AIM), False)
        self.assertIs(answer.shows((row_of(0, 1), row_of(-1, 0)), [WISH], AIM), False)
        self.assertIs(answer.shows((row_of(0, 1),), [], row_of(1)), False)


class EmptyTest(unittest.TestCase):
    def test_by_hand(self):
        self.assertIs(Empty(NONE).shows(BOX, [UNDER], AIM), True)
        self.assertIs(Empty(row_of(0, 0, 5, 0, 5)).shows(BOX, [UNDER], row_of(0, 0)), True)
        self.assertIs(Empty(row_of(1, 0, 2, 0, 1)).shows(BOX, [UNDER], AIM), False)
        self.assertIs(Empty(row_of(0, 3, 1, 3, 1)).shows(BOX, [(row_of(1, 0), (-10, 1))], AIM), True)

    def test_numbers_that_come_to_just_nought(self):
        self.assertIs(Empty(NONE).shows(BOX, [(row_of(1, 0), (0, 1))], AIM), False)
        self.assertIs(Empty(row_of(0, 0, 0, 0, 0)).shows(BOX, [UNDER], AIM), False)
        self.assertIs(Empty(row_of(1, 0, 1, 0, 0)).shows(BOX, [UNDER], AIM), False)
        self.assertIs(Empty(NONE).shows(BOX, [(row_of(1, 0), (-1, 10 ** 9))], AIM), True)

    def test_multiples_that_are_bent(self):
        for at in range(5):
            for by in (1, -1, as_fraction((1, 1000)), as_fraction((-1, 1000))):
                self.assertIs(Empty(moved(NONE, at, by)).shows(BOX, [UNDER], AIM), False)
        # Rows of noughts and numbers below nought, but by multiples below nought.
        self.assertIs(Empty(row_of(-1, 0, -1, 0, 0)).shows(BOX, [UNDER], AIM), False)
        self.assertIs(Empty(row_of(-1, 0, 0, 0, 1)).shows(BOX, [UNDER], AIM), False)

    def test_things_that_are_no_rows(self):
        for thing in bent(NONE) + strange_things():
            with self.subTest(thing=repr(thing)[:60]):
                self.assertIs(Empty(thing).shows(BOX, [UNDER], AIM), False)

    def test_of_another_question(self):
        answer = settle(BOX, [UNDER], AIM)
        self.assertIs(answer.shows(BOX, [UNDER], row_of(5, 5)), True)
        self.assertIs(answer.shows(BOX, [WISH], AIM), False)
        self.assertIs(answer.shows(BOX, [], AIM), False)
        self.assertIs(answer.shows(BOX, [UNDER, WISH], AIM), False)
        self.assertIs(answer.shows((row_of(-1, 1), row_of(-1, 2)), [UNDER], AIM), False)


class RefusedTest(unittest.TestCase):
    def answers(self):
        """Answers that show something, and some that show nothing."""
        return [Most(SPOT, MULTIPLES), Most(None, []), Empty(NONE), Empty({})]

    def test_box_first(self):
        for answer in self.answers():
            for thing in not_boxes() + strange_things():
                for wishes, aim in (([], row_of(0)), (None, None), ([None], row_of(0, 0))):
                    self.assertIs(refused(self, NoBox, answer.shows, thing, wishes, aim), thing)

    def test_then_wishes(self):
        for answer in self.answers():
            for wishes in not_lists() + [[WISH] * 17, (WISH,) * 17, [None] * 17]:
                for aim in (AIM, None):
                    self.assertIs(refused(self, NoWish, answer.shows, BOX, wishes, aim), wishes)
            for thing in wrong_wishes(2) + strange_things():
                for wishes in ([thing], [WISH, thing], [WISH] * 15 + [thing], (WISH, thing, None)):
                    for aim in (AIM, None):
                        self.assertIs(refused(self, NoWish, answer.shows, BOX, wishes, aim), thing)

    def test_then_the_aim(self):
        for answer in self.answers():
            for aim in [AIM[:1], AIM + AIM, list(AIM), (1, 2), ((2, 2), (1, 1))] + strange_things():
                self.assertIs(refused(self, NoAim, answer.shows, BOX, [WISH], aim), aim)


if __name__ == "__main__":
    unittest.main()
