"""Points 2, 3 and 21: sums over so many things."""

import unittest

from noughtcut.numbers import is_fraction, is_row
from noughtcut.sums import flat_sum, place_sum, sum_at, sum_plus, sum_times
from tests.things import as_fraction, as_tuple, row_of, some_numbers


def some_sums(many):
    """Sums over so many things, with numbers of all sizes."""
    numbers = some_numbers()
    sums = []
    for step in range(1, 6):
        row = tuple(numbers[(step * at + step) % len(numbers)] for at in range(many))
        sums.append((row, numbers[(7 * step) % len(numbers)]))
    return sums


def some_rows(many):
    """Rows with so many fractions."""
    numbers = some_numbers()
    return [tuple(numbers[(5 * at + 3 * step) % len(numbers)] for at in range(many)) for step in range(4)]


class SumTestCase(unittest.TestCase):
    def is_sum(self, thing, many):
        self.assertIsInstance(thing, tuple)
        self.assertEqual(len(thing), 2)
        self.assertIs(is_row(thing[0], many), True)
        self.assertIs(is_fraction(thing[1]), True)


class SumAtTest(SumTestCase):
    def test_known_ones(self):
        self.assertEqual(sum_at((row_of(1, -2), (3, 1)), row_of("1/2", "1/4")), (3, 1))
        self.assertEqual(sum_at((row_of("1/2", "1/3"), (1, 6)), row_of(1, 1)), (1, 1))
        self.assertEqual(sum_at((row_of("1/2"), (-1, 2)), row_of(1)), (0, 1))
        self.assertEqual(sum_at((row_of(0, 0, 0), (-7, 5)), row_of(1, 2, 3)), (-7, 5))

    def test_over_no_things(self):
        for number in some_numbers():
            self.assertEqual(sum_at(((), number), ()), number)

    def test_it_weighs_and_puts_the_number_to_it(self):
        for many in (1, 2, 3, 8, 20):
            for one in some_sums(many):
                for row in some_rows(many):
                    wanted = as_fraction(one[1])
                    for weight, by in zip(one[0], row):
                        wanted += as_fraction(weight) * as_fraction(by)
                    told = sum_at(one, row)
                    self.assertIs(is_fraction(told), True)
                    self.assertEqual(told, as_tuple(wanted))


class SumPlusTest(SumTestCase):
    def test_known_ones(self):
        self.assertEqual(
            sum_plus((row_of("1/2", 1), (1, 3)), (row_of("1/2", "-1"), (1, 6))),
            (((1, 1), (0, 1)), (1, 2)),
        )

    def test_over_no_things(self):
        self.assertEqual(sum_plus(((), (1, 2)), ((), (1, 2))), ((), (1, 1)))

    def test_place_by_place(self):
        for many in (0, 1, 2, 3, 8, 20):
            for one in some_sums(many):
                for other in some_sums(many):
                    told = sum_plus(one, other)
                    self.is_sum(told, many)
                    for mine, its, both in zip(one[0], other[0], told[0]):
                        self.assertEqual(both, as_tuple(as_fraction(mine) + as_fraction(its)))
                    self.assertEqual(told[1], as_tuple(as_fraction(one[1]) + as_fraction(other[1])))


class SumTimesTest(SumTestCase):
    def test_known_ones(self):
        self.assertEqual(sum_times((-2, 3), (row_of("3/2", 0, -6), (3, 1))), (((-1, 1), (0, 1), (4, 1)), (-2, 1)))
        self.assertEqual(sum_times((0, 1), (row_of("3/2", -1), (3, 1))), (((0, 1), (0, 1)), (0, 1)))
        self.assertEqual(sum_times((1, 1), (row_of("3/2", -1), (3, 1))), (row_of("3/2", -1), (3, 1)))

    def test_over_no_things(self):
        self.assertEqual(sum_times((-1, 2), ((), (4, 1))), ((), (-2, 1)))

    def test_each_of_its_fractions(self):
        for many in (0, 1, 2, 3, 8, 20):
            for one in some_sums(many):
                for by in some_numbers():
                    told = sum_times(by, one)
                    self.is_sum(told, many)
                    for weight, taken in zip(one[0], told[0]):
                        self.assertEqual(taken, as_tuple(as_fraction(by) * as_fraction(weight)))
                    self.assertEqual(told[1], as_tuple(as_fraction(by) * as_fraction(one[1])))


class FlatSumTest(SumTestCase):
    def test_from_none_to_twenty_things(self):
        for many in range(21):
            for number in some_numbers():
                told = flat_sum(many, number)
                self.is_sum(told, many)
                self.assertEqual(told, (((0, 1),) * many, number))

    def test_it_tells_its_number_everywhere(self):
        for row in some_rows(3):
            self.assertEqual(sum_at(flat_sum(3, (-5, 3)), row), (-5, 3))


class PlaceSumTest(SumTestCase):
    def test_each_place(self):
        for many in range(1, 21):
            for place in range(many):
                told = place_sum(many, place)
                self.is_sum(told, many)
                wanted = [(0, 1)] * many
                wanted[place] = (1, 1)
                self.assertEqual(told, (tuple(wanted), (0, 1)))

    def test_it_tells_what_stands_there(self):
        for row in some_rows(4):
            for place in range(4):
                self.assertEqual(sum_at(place_sum(4, place), row), row[place])


if __name__ == "__main__":
    unittest.main()
