"""Points 33 and 34: boxes as texts."""

import unittest

from noughtcut.errors import NoBox, NoText
from noughtcut.nettext import read_box, show_box
from tests.test_boxes import not_boxes
from tests.test_net_texts import NOT_NUMBERS
from tests.things import Draws, refused, row_of, strange_things

BOX = (row_of("-1/2", 3), row_of(0, 0), row_of(-7, "22/7"))
TEXT = "from -1/2 to 3\nfrom 0 to 0\nfrom -7 to 22/7"


class BoxTextTest(unittest.TestCase):
    def bad_row(self, text, row):
        with self.subTest(text=text):
            self.assertEqual(refused(self, NoText, read_box, text), row)

    def test_known_ones(self):
        self.assertEqual(show_box(BOX), TEXT)
        self.assertEqual(read_box(TEXT), BOX)
        self.assertEqual(show_box(BOX[:1]), "from -1/2 to 3")
        self.assertEqual(read_box("from 0 to 0\nfrom 0 to 1"), (row_of(0, 0), row_of(0, 1)))

    def test_written_and_read_again(self):
        draws = Draws(33)
        for at in range(100):
            box = draws.box(1 + at % 3)
            self.assertEqual(read_box(show_box(box)), box)
            self.assertEqual(show_box(read_box(show_box(box))), show_box(box))

    def test_thirty_figures(self):
        draws = Draws(34)
        top, bottom = draws.long_number(30)
        box = (((-abs(top), bottom), (abs(top), bottom)), ((abs(top), bottom), (abs(top), bottom)))
        self.assertEqual(read_box(show_box(box)), box)

    def test_more_than_thirty_figures_are_written_too(self):
        box = (((1, 10 ** 399), (10 ** 399, 1)),)
        self.assertEqual(show_box(box), "from 1/1" + "0" * 399 + " to 1" + "0" * 399)

    def test_no_box_is_written(self):
        for thing in not_boxes() + strange_things() + [TEXT]:
            self.assertIs(refused(self, NoBox, show_box, thing), thing)

    def test_no_text(self):
        for thing in [thing for thing in strange_things() if not isinstance(thing, str)] + [BOX, [TEXT], 5]:
            self.assertEqual(refused(self, NoText, read_box, thing), 0)

    def test_rows_without_their_form(self):
        rows = TEXT.split("\n")
        for at, right in enumerate(rows):
            words = right.split(" ")
            others = ["", " ", " " + right, right + " ", right + " 1", right.replace(" ", "  "), "from 0 to", "0 to 1", "from",
                      "from 0 1", "from 0 to 1 to 2", "to 0 from 1", "From 0 to 1", "from 0 To 1", "from 0 - 1", "ins 1",
                      "in 0 to 1", "from 0 til 1", "from 0", "from0 to 1", "from 0\tto 1"]
            others += [" ".join(words[:place] + words[place + 1:]) for place in range(4)]
            others += [" ".join(words[:place] + [word] + words[place + 1:]) for place in (1, 3) for word in NOT_NUMBERS]
            for other in others:
                self.bad_row("\n".join(rows[:at] + [other] + rows[at + 1:]), at)
                self.bad_row("\n".join(rows[:at] + [other]), at)

    def test_no_rows_too_few_or_too_many(self):
        self.bad_row("", 0)
        self.bad_row("\n", 0)
        self.bad_row("from 0 to 1\n", 1)
        self.bad_row(TEXT + "\n", 3)
        self.bad_row(TEXT + "\nfrom 0 to 1", 3)
        self.bad_row(TEXT + "\nfrom 0 to 1\nfrom 0 to 1", 3)
        self.bad_row("\n" * 6000, 0)
        self.bad_row("from 0 to " + "1" * 5990, 0)

    def test_the_first_bad_row_is_told(self):
        rows = TEXT.split("\n")
        for first in range(3):
            self.bad_row("\n".join(row if at < first else row + " " for at, row in enumerate(rows)), first)

    def test_low_above_high(self):
        texts = {
            "from 1 to 0": (row_of(1, 0),),
            "from 0 to 1\nfrom 1/2 to 1/3": (row_of(0, 1), row_of("1/2", "1/3")),
            "from 0 to -1\nfrom 3 to 2\nfrom 0 to 0": (row_of(0, -1), row_of(3, 2), row_of(0, 0)),
            "from 0 to 1\nfrom 0 to 1\nfrom -1 to -2": (row_of(0, 1), row_of(0, 1), row_of(-1, -2)),
        }
        for text, spans in texts.items():
            self.assertEqual(refused(self, NoBox, read_box, text), spans)

    def test_a_bad_row_goes_ahead_of_low_above_high(self):
        self.bad_row("from 1 to 0\nfrom 0 to", 1)
        self.bad_row("from 1 to 0\n", 1)
        self.bad_row("from 1 to 0\nfrom 0 to 1\nfrom 0 to 1\nfrom 0 to 1", 3)
        self.bad_row("from 1 to 0\nfrom 0 to 1\nfrom 1 to 2/4", 2)


if __name__ == "__main__":
    unittest.main()
