"""Points 2, 3, 11 and 12: whole numbers, fractions, rows, and how they are reckoned with."""

import math
import unittest

from noughtcut.numbers import (
    fraction_of,
    is_fraction,
    is_less,
    is_row,
    is_whole,
    minus,
    plus,
    ratio,
    times,
    weigh,
)
from tests.things import as_fraction, as_tuple, deep_tuple, row_of, some_numbers, strange_things


class WholeTest(unittest.TestCase):
    def test_ints_are_whole_numbers(self):
        for thing in (0, 1, -1, 7, 10 ** 400 - 1, -(10 ** 400), 10 ** 5000):
            self.assertIs(is_whole(thing), True)

    def test_truths_are_none(self):
        self.assertIs(is_whole(True), False)
        self.assertIs(is_whole(False), False)

    def test_other_things_are_none(self):
        for thing in strange_things() + ["1", "0", (1,), (1, 1), (), [1], {1: 1}]:
            with self.subTest(thing=repr(thing)[:60]):
                self.assertIs(is_whole(thing), False)


class FractionTest(unittest.TestCase):
    def test_what_is_one(self):
        for thing in some_numbers() + [(0, 1), (1, 1), (-1, 1), (3, 4), (-3, 4), (4, 3), (5, 1), (1, 10 ** 1000)]:
            with self.subTest(thing=thing):
                self.assertIs(is_fraction(thing), True)

    def test_not_in_lowest_terms(self):
        large = 10 ** 399
        for thing in ((2, 2), (2, 4), (-2, 4), (6, 3), (-6, 3), (10, 15), (large, 2 * large), (3 * large, large)):
            with self.subTest(thing=thing):
                self.assertIs(is_fraction(thing), False)

    def test_a_bottom_of_nought_or_below(self):
        for thing in ((0, 0), (1, 0), (-1, 0), (2, 0), (1, -1), (-1, -1), (1, -2), (-3, -4), (0, -1), (5, -3)):
            with self.subTest(thing=thing):
                self.assertIs(is_fraction(thing), False)

    def test_nought_has_one_form(self):
        self.assertIs(is_fraction((0, 1)), True)
        for bottom in (0, 2, 3, 7, 10 ** 400, -1, -2):
            with self.subTest(bottom=bottom):
                self.assertIs(is_fraction((0, bottom)), False)

    def test_truths_and_texts_for_parts(self):
        for thing in ((True, 1), (1, True), (False, 1), (True, True), (True, 2), ("1", "2"), ("1", 2), (1, "2")):
            with self.subTest(thing=thing):
                self.assertIs(is_fraction(thing), False)

    def test_a_part_more_or_less(self):
        for thing in ((), (1,), (0,), (1, 2, 3), (1, 1, 1), (0, 1, 1), ((1, 2),), ((1, 2), (1, 3))):
            with self.subTest(thing=thing):
                self.assertIs(is_fraction(thing), False)

    def test_lists_texts_and_numbers_are_none(self):
        for thing in ([1, 2], [0, 1], "1/2", "12", 1, 0, {1: 2, 3: 4}, {0: 1, 1: 1}):
            with self.subTest(thing=thing):
                self.assertIs(is_fraction(thing), False)

    def test_other_things_are_none(self):
        for thing in strange_things():
            with self.subTest(thing=repr(thing)[:60]):
                self.assertIs(is_fraction(thing), False)


class RowTest(unittest.TestCase):
    def test_the_row_of_none(self):
        self.assertIs(is_row((), 0), True)
        self.assertIs(is_row((), 1), False)
        self.assertIs(is_row((), 31), False)

    def test_rows_of_some(self):
        for many in range(32):
            row = ((-1, 2),) * many
            for asked in range(32):
                self.assertIs(is_row(row, asked), many == asked)

    def test_one_that_is_no_fraction(self):
        for wrong in strange_things() + [(2, 4), (0, 2), (1, 0), (1, -2), 1, 0, (1,), (1, 2, 3)]:
            for place in (0, 1, 30):
                row = [(1, 2)] * 31
                row[place] = wrong
                with self.subTest(wrong=repr(wrong)[:60], place=place):
                    self.assertIs(is_row(tuple(row), 31), False)
            self.assertIs(is_row((wrong,), 1), False)

    def test_a_list_is_none(self):
        self.assertIs(is_row([], 0), False)
        self.assertIs(is_row([(1, 2)], 1), False)
        self.assertIs(is_row([(1, 2), (0, 1)], 2), False)
        self.assertIs(is_row(([1, 2],), 1), False)
        self.assertIs(is_row({(1, 2): (1, 2)}, 1), False)

    def test_a_fraction_is_no_row(self):
        self.assertIs(is_row((1, 2), 2), False)
        self.assertIs(is_row((1, 2), 1), False)

    def test_other_things_are_none(self):
        for many in (0, 1, 2, 31):
            for thing in strange_things() + [0, 1, 2, 31, "12"]:
                with self.subTest(thing=repr(thing)[:60], many=many):
                    self.assertIs(is_row(thing, many), False)

    def test_deep_ones(self):
        for many in range(4):
            self.assertIs(is_row((deep_tuple(19),) * many, many), many == 0)


class FractionOfTest(unittest.TestCase):
    def test_small_ones(self):
        for top in range(-20, 21):
            for bottom in list(range(-20, 0)) + list(range(1, 21)):
                told = fraction_of(top, bottom)
                self.assertIs(is_fraction(told), True)
                self.assertEqual(told[0] * bottom, top * told[1])
                self.assertGreaterEqual(told[1], 1)
                self.assertEqual(math.gcd(*told), 1)

    def test_known_ones(self):
        self.assertEqual(fraction_of(6, 4), (3, 2))
        self.assertEqual(fraction_of(6, -4), (-3, 2))
        self.assertEqual(fraction_of(-6, 4), (-3, 2))
        self.assertEqual(fraction_of(-6, -4), (3, 2))
        self.assertEqual(fraction_of(0, -4), (0, 1))
        self.assertEqual(fraction_of(0, 4), (0, 1))
        self.assertEqual(fraction_of(-8, -2), (4, 1))

    def test_four_hundred_figures(self):
        large, by = 10 ** 399 + 7, 10 ** 100 + 9
        self.assertEqual(fraction_of(large * by, -large), (-by, 1))
        self.assertEqual(fraction_of(-large, large * by), (-1, by))
        self.assertEqual(fraction_of(10 ** 400 - 1, 9), ((10 ** 400 - 1) // 9, 1))
        self.assertEqual(fraction_of(10 ** 399, 10 ** 399 + 1), (10 ** 399, 10 ** 399 + 1))


class ReckoningTest(unittest.TestCase):
    def same(self, told, wanted):
        self.assertIs(is_fraction(told), True)
        self.assertEqual(told, as_tuple(wanted))

    def test_each_with_each(self):
        for one in some_numbers():
            for other in some_numbers():
                mine, its = as_fraction(one), as_fraction(other)
                self.same(plus(one, other), mine + its)
                self.same(minus(one, other), mine - its)
                self.same(times(one, other), mine * its)
                self.assertIs(is_less(one, other), mine < its)
                if its != 0:
                    self.same(ratio(one, other), mine / its)

    def test_known_ones(self):
        self.assertEqual(plus((1, 2), (1, 3)), (5, 6))
        self.assertEqual(plus((1, 6), (1, 3)), (1, 2))
        self.assertEqual(plus((1, 2), (-1, 2)), (0, 1))
        self.assertEqual(minus((1, 2), (1, 3)), (1, 6))
        self.assertEqual(minus((1, 3), (1, 2)), (-1, 6))
        self.assertEqual(minus((2, 3), (2, 3)), (0, 1))
        self.assertEqual(times((2, 3), (3, 2)), (1, 1))
        self.assertEqual(times((-2, 3), (0, 1)), (0, 1))
        self.assertEqual(ratio((1, 2), (-1, 4)), (-2, 1))
        self.assertEqual(ratio((-1, 2), (-3, 1)), (1, 6))
        self.assertEqual(ratio((0, 1), (-3, 7)), (0, 1))

    def test_is_less_known_ones(self):
        self.assertIs(is_less((1, 3), (1, 2)), True)
        self.assertIs(is_less((1, 2), (1, 3)), False)
        self.assertIs(is_less((1, 2), (1, 2)), False)
        self.assertIs(is_less((-1, 2), (-1, 3)), True)
        self.assertIs(is_less((-1, 3), (-1, 2)), False)
        self.assertIs(is_less((-1, 9), (0, 1)), True)
        self.assertIs(is_less((0, 1), (0, 1)), False)

    def test_is_less_tells_close_large_ones_apart(self):
        large = 10 ** 399
        self.assertIs(is_less((large, large + 1), (large + 1, large + 2)), True)
        self.assertIs(is_less((large + 1, large + 2), (large, large + 1)), False)


class WeighTest(unittest.TestCase):
    def test_no_fractions(self):
        self.assertEqual(weigh((), ()), (0, 1))

    def test_known_ones(self):
        self.assertEqual(weigh(((1, 2),), ((2, 3),)), (1, 3))
        self.assertEqual(weigh(row_of(1, 2, 3), row_of(4, -5, 6)), (12, 1))
        self.assertEqual(weigh(row_of("1/2", "1/3"), row_of("1/2", "-3/4")), (0, 1))
        self.assertEqual(weigh(row_of(0, 0), row_of("7/3", -2)), (0, 1))

    def test_rows_of_many(self):
        numbers = some_numbers()
        for many in range(1, 32):
            row = tuple(numbers[at % len(numbers)] for at in range(many))
            other = tuple(numbers[(3 * at + many) % len(numbers)] for at in range(many))
            wanted = sum(as_fraction(one) * as_fraction(by) for one, by in zip(row, other))
            self.assertEqual(weigh(row, other), as_tuple(wanted))
            self.assertEqual(weigh(other, row), as_tuple(wanted))


if __name__ == "__main__":
    unittest.main()
