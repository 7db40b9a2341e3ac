"""Point 46: wishes settled, some of them strictly: an Inside or an Outside."""

import unittest

from noughtcut.errors import NoBox, NoWish
from noughtcut.numbers import is_row
from noughtcut.settling import Inside, Outside, settle_strictly
from tests.test_answers import bent, moved
from tests.test_boxes import not_boxes
from tests.things import Draws, as_fraction, refused, row_of, strange_things
from tests.wishing import asked_of, come, drawn_questions, keeps_all, not_lists, through, turned, weighs, whole_wish, wrong_wishes

BOX = (row_of(0, 1), row_of(-1, 2))
WISH = (row_of(1, 1), (1, 1))
EDGE = (row_of(1, 0), (0, 1))
UNDER = (row_of(1, 0), (-1, 1))


class SettleTest(unittest.TestCase):
    def held_against(self, box, wishes, strict, answer):
        """All that the document says of the answer."""
        if isinstance(answer, Inside):
            self.assertIs(answer.__class__, Inside)
            self.assertIs(is_row(answer.spot, len(box)), True)
            spot = [as_fraction(one) for one in answer.spot]
            self.assertTrue(keeps_all(asked_of(box, wishes), spot))
            for wish in strict:
                *row, number = whole_wish(wish)
                self.assertLess(weighs(row, spot), number)
            return
        self.assertIs(answer.__class__, Outside)
        asked = asked_of(box, list(wishes) + list(strict))
        self.assertIs(is_row(answer.multiples, len(asked)), True)
        self.assertTrue(all(multiple[0] >= 0 for multiple in answer.multiples))
        total = come(asked, answer.multiples)
        self.assertEqual(total[:-1], [0] * len(box))
        self.assertLessEqual(total[-1], 0)
        if total[-1] == 0:
            self.assertTrue(any(multiple[0] > 0 for multiple in answer.multiples[len(asked) - len(strict):]))

    def test_drawn_ones(self):
        kinds = {Inside: 0, Outside: 0}
        for box, wishes, aim in drawn_questions(71, 300):
            for at in {0, len(wishes) // 2, len(wishes)}:
                asked = (box, wishes[:at], wishes[at:])
                answer = settle_strictly(*asked)
                with self.subTest(asked=asked):
                    self.held_against(*asked, answer)
                    self.assertIs(answer.shows(*asked), True)
                    self.assertIs(answer.shows(box, tuple(wishes[:at]), tuple(wishes[at:])), True)
                kinds[answer.__class__] += 1
        self.assertGreater(min(kinds.values()), 100)

    def test_strict_or_not_makes_the_difference(self):
        self.held_against(BOX, [EDGE], [], settle_strictly(BOX, [EDGE], []))
        self.assertIsInstance(settle_strictly(BOX, [EDGE], []), Inside)
        self.assertIsInstance(settle_strictly(BOX, [], [EDGE]), Outside)
        self.held_against(BOX, [], [EDGE], settle_strictly(BOX, [], [EDGE]))
        corner = (row_of(-1, -1), (-3, 1))
        self.assertEqual(settle_strictly(BOX, [corner], []).spot, row_of(1, 2))
        self.assertIsInstance(settle_strictly(BOX, [], [corner]), Outside)
        self.assertIsInstance(settle_strictly(BOX, [WISH, turned(WISH)], []), Inside)
        self.assertIsInstance(settle_strictly(BOX, [WISH], [turned(WISH)]), Outside)
        self.assertIsInstance(settle_strictly(BOX, [turned(WISH)], [WISH]), Outside)
        self.assertIsInstance(settle_strictly(BOX, [], [WISH, turned(WISH)]), Outside)
        near = (row_of(-1, -1), (-(3 * 10 ** 30 - 1), 10 ** 30))
        self.assertIsInstance(settle_strictly(BOX, [], [near]), Inside)

    def test_with_none_at_all(self):
        for empty in ([], ()):
            answer = settle_strictly(BOX, empty, empty)
            self.assertIsInstance(answer, Inside)
            self.held_against(BOX, [], [], answer)
        flat = (row_of(3, 3), row_of(-1, -1))
        self.assertEqual(settle_strictly(flat, [], []).spot, row_of(3, -1))

    def test_wishes_of_noughts(self):
        for number, weak, strictly in (((0, 1), Inside, Outside), ((1, 9), Inside, Inside), ((-1, 9), Outside, Outside)):
            wish = (row_of(0, 0), number)
            self.assertIsInstance(settle_strictly(BOX, [wish], [WISH]), weak)
            self.assertIsInstance(settle_strictly(BOX, [WISH], [wish]), strictly)
            self.held_against(BOX, [WISH], [wish], settle_strictly(BOX, [WISH], [wish]))

    def test_strict_wishes_of_flat_boxes(self):
        box = (row_of(1, 1), row_of(2, 2), row_of(3, 3))
        for number, kind in (((6, 1), Outside), ((61, 10), Inside), ((59, 10), Outside)):
            strict = [(row_of(1, 1, 1), number)]
            self.assertIsInstance(settle_strictly(box, [], strict), kind)
            self.held_against(box, [], strict, settle_strictly(box, [], strict))

    def test_sixteen_wishes(self):
        draws = Draws(72)
        for at in range(20):
            box = draws.box(1 + at % 3)
            spot = draws.spot(box)
            for all_ in ([draws.node(len(box)) for _ in range(16)], [through(draws, spot) for _ in range(16)]):
                for many in (0, 8, 16):
                    answer = settle_strictly(box, all_[:many], all_[many:])
                    self.held_against(box, all_[:many], all_[many:], answer)

    def test_asked_again(self):
        for box, wishes, aim in drawn_questions(73, 40):
            kept = list(wishes)
            first = settle_strictly(box, wishes[:2], wishes[2:])
            again = settle_strictly(box, tuple(wishes[:2]), tuple(wishes[2:]))
            self.assertEqual(wishes, kept)
            self.assertIs(first.__class__, again.__class__)
            self.assertEqual(vars(first), vars(again))

    def test_sixteen_strict_ones_of_thirty_figures(self):
        draws = Draws(74)
        for at in range(4):
            high = [draws.long_number(30) for _ in range(3)]
            box = tuple(((-abs(top), bottom), (abs(top), bottom)) for top, bottom in high)
            strict = [(tuple(draws.long_number(30) for _ in range(3)), draws.long_number(30)) for _ in range(16)]
            if at % 2:
                strict = [(row, (abs(number[0]), number[1])) for row, number in strict]
            answer = settle_strictly(box, [], strict)
            self.assertIs(answer.shows(box, [], strict), True)
            self.assertIs(answer.has_spot(), bool(at % 2))


class ShowsTest(unittest.TestCase):
    def test_insides_by_hand(self):
        self.assertIs(Inside(row_of(0, 0)).shows(BOX, [WISH], [WISH]), True)
        self.assertIs(Inside(row_of(0, 1)).shows(BOX, [WISH], []), True)
        self.assertIs(Inside(row_of(0, 1)).shows(BOX, [], [WISH]), False)
        self.assertIs(Inside(row_of(0, 2)).shows(BOX, [WISH], []), False)
        self.assertIs(Inside(row_of(-1, 0)).shows(BOX, [WISH], [WISH]), False)
        self.assertIs(Inside(row_of(0, -2)).shows(BOX, [WISH], [WISH]), False)
        self.assertIs(Inside(row_of("1/1000000", 1)).shows(BOX, [WISH], []), False)
        self.assertIs(Inside(row_of(0, 1)).shows(BOX, [EDGE], []), True)
        self.assertIs(Inside(row_of(0, 1)).shows(BOX, [], [EDGE]), False)
        for thing in bent(row_of(0, 0)) + strange_things():
            with self.subTest(thing=repr(thing)[:60]):
                self.assertIs(Inside(thing).shows(BOX, [WISH], [WISH]), False)
                self.assertIs(Inside(thing).shows(BOX, [], []), False)

    def test_outsides_by_hand(self):
        right = row_of(0, 0, 1, 0, 1)
        self.assertIs(Outside(right).shows(BOX, [], [EDGE]), True)
        self.assertIs(Outside(right).shows(BOX, [EDGE], []), False)
        self.assertIs(Outside(right).shows(BOX, [UNDER], []), True)
        self.assertIs(Outside(right).shows(BOX, [], [UNDER]), True)
        self.assertIs(Outside(right).shows(BOX, [], [(row_of(1, 0), (1, 10 ** 9))]), False)
        self.assertIs(Outside(row_of(0, 0, 1, 0, 1, 0)).shows(BOX, [EDGE], [WISH]), False)
        self.assertIs(Outside(row_of(0, 0, 1, 0, 0, 1)).shows(BOX, [WISH], [EDGE]), True)
        self.assertIs(Outside(row_of(0, 0, 1, 0, 1, 0)).shows(BOX, [UNDER], [WISH]), True)
        self.assertIs(Outside(row_of(0, 0, 0, 0, 1, 1)).shows(BOX, [WISH], [turned(WISH)]), True)
        self.assertIs(Outside(row_of(0, 0, 0, 0, 1, 1)).shows(BOX, [WISH, turned(WISH)], []), False)
        self.assertIs(Outside(row_of(0, 0, 0, 0, 0)).shows(BOX, [], [EDGE]), False)
        self.assertIs(Outside(row_of(1, 0, 1, 0, 0)).shows(BOX, [], [EDGE]), False)
        self.assertIs(Outside(row_of(-1, 0, 0, 0, 1)).shows(BOX, [], [EDGE]), False)
        for thing in bent(right) + strange_things() + [moved(right, at, by) for at in range(5) for by in (1, -1)]:
            with self.subTest(thing=repr(thing)[:60]):
                self.assertIs(Outside(thing).shows(BOX, [], [EDGE]), False)

    def test_of_another_question(self):
        answer = settle_strictly(BOX, [], [EDGE])
        self.assertIs(answer.shows(BOX, [], [WISH]), False)
        self.assertIs(answer.shows(BOX, [WISH], [EDGE]), False)
        self.assertIs(answer.shows(BOX, [], []), False)
        self.assertIs(answer.shows((row_of(-1, 1), row_of(-1, 2)), [], [EDGE]), False)


class RefusedTest(unittest.TestCase):
    def doors(self):
        """All that is asked with a box, wishes and strict ones."""
        return [settle_strictly, Inside(row_of(0, 0)).shows, Inside(None).shows, Outside(row_of(0, 0, 1, 0, 1)).shows, Outside([]).shows]

    def test_box_first(self):
        for ask in self.doors():
            for thing in not_boxes() + strange_things():
                for wishes, strict in (([], []), (None, None), ([None], []), ([WISH] * 17, [WISH])):
                    self.assertIs(refused(self, NoBox, ask, thing, wishes, strict), thing)

    def test_then_what_is_no_list(self):
        for ask in self.doors():
            for thing in not_lists():
                for other in ([], (WISH,), [None], [WISH] * 17, None, 0, ""):
                    self.assertIs(refused(self, NoWish, ask, BOX, thing, other), thing)
                for other in ([], (WISH,), [None], [WISH] * 17):
                    self.assertIs(refused(self, NoWish, ask, BOX, other, thing), thing)

    def test_then_too_many_together(self):
        for ask in self.doors():
            for many in range(18):
                wishes, strict = [WISH] * many, (WISH,) * (17 - many)
                self.assertIs(refused(self, NoWish, ask, BOX, wishes, strict), wishes)
                wishes, strict = [None] * many, [None] * (17 - many)
                self.assertIs(refused(self, NoWish, ask, BOX, wishes, strict), wishes)

    def test_then_the_first_thing_that_is_no_wish(self):
        for ask in self.doors():
            for thing in wrong_wishes(2) + strange_things():
                for wishes, strict in (([thing], []), ([], [thing]), ([WISH, thing], [None]), ([WISH], (WISH, thing, None)),
                                       ((thing, None), [None]), ([WISH] * 8, [WISH] * 7 + [thing]), ([WISH] * 15 + [thing], [])):
                    with self.subTest(thing=repr(thing)[:60]):
                        self.assertIs(refused(self, NoWish, ask, BOX, wishes, strict), thing)


if __name__ == "__main__":
    unittest.main()
