"""Point 13: fractions as texts."""

import unittest

from noughtcut.errors import NoNumber
from noughtcut.numbers import read_number, show_number
from tests.things import as_tuple, some_numbers, strange_things

WRONG = [
    "", " ", "-", "/", "-/", "--", "//", "1/", "/1", "-/2", "1/-", "/", "1//2", "1/2/3", "1/2/",
    "-0", "+1", "+0", "01", "00", "-01", "001", "0/1", "1/1", "-1/1", "5/1", "2/4", "-2/4", "4/2", "6/3", "0/5", "-0/5",
    "1/0", "0/0", "-1/0", "1/-2", "-1/-2", "--1", "---1", "1-", "1-2", "- 1", "1/02", "01/2", "1/+2", "+1/2", "1/00",
    " 1", "1 ", " 1 ", "1 /2", "1/ 2", "1 / 2", "1 2", "1/2 ", " 1/2", "1_0", "1/1_0", "_1", "1_",
    "1\n", "\n1", "1/2\n", "1\n/2", "1/\n2", "-\n1", "\n", "1.0", "1.5", ".5", "1e3", "1E3", "0x1", "0b1", "1j", "1,0",
    "one", "nan", "inf", "a", "1a", "a1", "(1, 2)", "1:2", "1\\2", "~", "-a", "1/b",
]


class ShowTest(unittest.TestCase):
    def test_known_ones(self):
        pairs = [
            ((3, 4), "3/4"), ((-5, 1), "-5"), ((0, 1), "0"), ((1, 1), "1"), ((-1, 1), "-1"), ((10, 1), "10"),
            ((-3, 4), "-3/4"), ((1, 100), "1/100"), ((-22, 7), "-22/7"), ((100, 1), "100"),
        ]
        for one, text in pairs:
            with self.subTest(text=text):
                self.assertEqual(show_number(one), text)
                self.assertEqual(read_number(text), one)

    def test_a_thousand_figures(self):
        top, bottom = "1" + "0" * 999, "9" * 1000
        self.assertEqual(show_number((10 ** 999, 1)), top)
        self.assertEqual(show_number((-(10 ** 999), 10 ** 1000 - 1)), "-" + top + "/" + bottom)
        self.assertEqual(show_number((1, 10 ** 1000 - 1)), "1/" + bottom)


class ReadTest(unittest.TestCase):
    def refused(self, thing, *most):
        with self.assertRaises(NoNumber) as caught:
            read_number(thing, *most)
        self.assertIs(caught.exception.found, thing)

    def test_read_as_written(self):
        for top in range(-30, 31):
            for bottom in range(1, 31):
                one = as_tuple(f"{top}/{bottom}")
                self.assertEqual(read_number(show_number(one)), one)
                self.assertEqual(read_number(show_number(one), 2), one)

    def test_large_ones_are_read_as_written(self):
        for one in some_numbers():
            self.assertEqual(read_number(show_number(one), 400), one)

    def test_only_the_written_texts_are_read(self):
        signs = ["", "-", "+", "0", "1", "2", "4", "/", " "]
        texts = [a + b + c + d for a in signs for b in signs for c in signs for d in signs]
        for text in texts:
            try:
                told = show_number(read_number(text))
            except NoNumber as error:
                self.assertIs(error.found, text)
                continue
            self.assertEqual(told, text)

    def test_texts_that_are_none(self):
        for text in WRONG:
            with self.subTest(text=text):
                self.refused(text)
                self.refused(text, 1)
                self.refused(text, 400)

    def test_a_text_of_six_thousand_signs(self):
        self.refused("1" * 6000)
        self.refused("1" * 6000, 400)
        self.refused("-" + "1" * 5999, 400)
        self.refused("1/" + "3" * 5998, 400)
        self.refused("-" * 6000)
        self.refused("1/" * 3000)
        self.refused("\n" * 6000)

    def test_figures_of_other_scripts_are_none(self):
        for text in ("\u0661", "\u00b2", "1/\u0662", "\uff11"):
            self.refused(text)

    def test_things_that_are_no_texts(self):
        for thing in strange_things() + [0, 1, -5, 10 ** 400, (3, 4), (0, 1), ["1"], ("1",), {"1": "2"}]:
            with self.subTest(thing=repr(thing)[:60]):
                self.refused(thing)
                self.refused(thing, 400)

    def test_the_very_thing_is_kept(self):
        thing = ["1"]
        with self.assertRaises(NoNumber) as caught:
            read_number(thing)
        thing.append("2")
        self.assertEqual(caught.exception.found, ["1", "2"])


class MostTest(unittest.TestCase):
    def check(self, many, *most):
        """Texts with so many figures above or below are read, those with one more are refused."""
        low, high = 10 ** (many - 1), 10 ** many - 1
        for top in (low, high, -low, -high):
            self.assertEqual(read_number(str(top), *most), (top, 1))
        if many > 1:
            for top, bottom in ((1, low), (-1, high), (high, low), (-low, high), (low + 1, low), (high - 1, high)):
                self.assertEqual(read_number(f"{top}/{bottom}", *most), (top, bottom))
        for text in (f"{high + 1}", f"-{high + 1}", f"1/{high + 1}", f"-1/{high + 1}",
                     f"{high + 2}/{high + 1}", f"{high + 1}/{high}", f"-{high}/{high + 1}"):
            with self.assertRaises(NoNumber) as caught:
                read_number(text, *most)
            self.assertIs(caught.exception.found, text)

    def test_as_many_as_told_one_less_and_one_more(self):
        for most in (1, 2, 3, 7, 29, 30, 31, 200, 399, 400):
            with self.subTest(most=most):
                self.check(most, most)
                if most > 1:
                    one_less = 10 ** (most - 2)
                    self.assertEqual(read_number(str(one_less), most), (one_less, 1))
                    self.assertEqual(read_number(f"-1/{one_less + 1}", most), (-1, one_less + 1))

    def test_thirty_where_none_is_told(self):
        self.check(30)

    def test_a_sign_is_no_figure(self):
        self.assertEqual(read_number("-9", 1), (-9, 1))
        self.assertEqual(read_number("-9/2", 1), (-9, 2))
        self.assertEqual(read_number("-" + "9" * 30), (-(10 ** 30 - 1), 1))

    def test_above_and_below_are_counted_by_themselves(self):
        self.assertEqual(read_number("12/35", 2), (12, 35))
        for text in ("123/5", "5/123", "123/457"):
            with self.assertRaises(NoNumber):
                read_number(text, 2)


if __name__ == "__main__":
    unittest.main()
