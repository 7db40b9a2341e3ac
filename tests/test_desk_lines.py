"""Points 111 and 112: lines read."""

import unittest

from noughtcut.desklines import read_line
from noughtcut.errors import NoLine
from tests.things import refused, row_of, strange_things

LONG = "1" + "0" * 29
# A line of each kind, and what is told of it.
LINES = {
    "net a ins 1 / last 1 / node 1 : 0": ("net", "a", "ins 1\nlast 1\nnode 1 : 0"),
    "box b from 0 to 1 / from -1 to 1/2": ("box", "b", "from 0 to 1\nfrom -1 to 1/2"),
    "show abcdefgh": ("show", "abcdefgh"),
    "sides z": ("sides", "z"),
    "out a 1": ("out", "a", row_of(1)),
    "out a 1 -1/2 0 22/7": ("out", "a", row_of(1, "-1/2", 0, "22/7")),
    "pattern net 0 1": ("pattern", "net", row_of(0, 1)),
    "weight a 0 1 2 -1/3": ("weight", "a", 0, 1, 2, (-1, 3)),
    "weight a 99 10 9 5": ("weight", "a", 99, 10, 9, (5, 1)),
    "number a 3 0 7": ("number", "a", 3, 0, (7, 1)),
    "bounds a b": ("bounds", "a", "b"),
    "states box box": ("states", "box", "box"),
    "most a b 1": ("most", "a", "b", row_of(1)),
    "most a b 1 2 3 4": ("most", "a", "b", row_of(1, 2, 3, 4)),
    "least a b -1 0": ("least", "a", "b", row_of(-1, 0)),
    "paper a b 1/2 1/3 1/4": ("paper", "a", "b", row_of("1/2", "1/3", "1/4")),
    "alike a c b": ("alike", "a", "c", "b"),
    "needless a b": ("needless", "a", "b"),
    "slim a b": ("slim", "a", "b"),
    "pieces a b": ("pieces", "a", "b"),
    "always a b 0 -3/2": ("always", "a", "b", 0, (-3, 2)),
    "above a b 12": ("above", "a", "b", 12),
    "behind c a b": ("behind", "c", "a", "b"),
    "beside a a a": ("beside", "a", "a", "a"),
    "opposite undo a": ("opposite", "undo", "a"),
    "undo": ("undo",),
}


class ReadTest(unittest.TestCase):
    def test_each_line_of_the_list(self):
        self.assertEqual(len({line.split(" ")[0] for line in LINES}), 23)
        for line, told in LINES.items():
            with self.subTest(line=line):
                self.assertEqual(read_line(line), told)
                self.assertIs(read_line(line).__class__, tuple)
                self.assertEqual([part.__class__ for part in read_line(line)], [part.__class__ for part in told])

    def is_none(self, line):
        """The line is refused, the very thing."""
        with self.subTest(line=repr(line)[:60]):
            self.assertIs(refused(self, NoLine, read_line, line), line)

    def test_blanks_too_many_and_too_few(self):
        for line in LINES:
            words = line.split(" ")
            self.is_none(" " + line)
            self.is_none("\t" + line)
            self.is_none(line.replace(" ", "", 1) if len(words) > 1 else "und o")
            self.is_none(line.upper())
            if words[0] not in ("net", "box"):
                self.is_none(line + " ")
                self.is_none(line + " a")
                self.is_none(line + "\n")
                self.is_none(line + "x/")
                for at in range(1, len(words)):
                    self.is_none(" ".join(words[:at] + [""] + words[at:]))
            else:
                self.is_none(line.replace(" ", "  ", 1))
            self.is_none(line.replace(" ", "\n", 1) if len(words) > 1 else "undo\n")

    def test_words_too_many_and_too_few(self):
        for line, told in LINES.items():
            words = line.split(" ")
            if words[0] in ("net", "box"):
                self.is_none(words[0])
                self.is_none(" ".join(words[:2]))
                continue
            for at in range(1, len(told)):
                self.is_none(" ".join(words[:at]))
            if words[0] not in ("out", "pattern", "most", "least", "paper"):
                self.is_none(line + " " + words[-1])
        for word in ("out", "pattern"):
            for many in range(6):
                line = f"{word} a" + " 1/2" * many
                if 1 <= many <= 4:
                    self.assertEqual(read_line(line), (word, "a", row_of("1/2") * many))
                else:
                    self.is_none(line)
        for word in ("most", "least", "paper"):
            for many in range(6):
                line = f"{word} a b" + " -7" * many
                if 1 <= many <= 4:
                    self.assertEqual(read_line(line), (word, "a", "b", row_of(-7) * many))
                else:
                    self.is_none(line)

    def test_names(self):
        for name in ("a", "z", "abcdefgh", "zzzzzzzz", "net", "box", "undo", "at", "ins"):
            self.assertEqual(read_line(f"show {name}"), ("show", name))
            self.assertEqual(read_line(f"sides {name}"), ("sides", name))
            self.assertEqual(read_line(f"net {name} x"), ("net", name, "x"))
            self.assertEqual(read_line(f"behind {name} {name} {name}"), ("behind", name, name, name))
        for name in ("", "abcdefghi", "zzzzzzzzz", "A", "aB", "a1", "1", "a-", "a_b", "-", "/", "a.b", "a,", "~", "`", "{", "@", "[", "a/"):
            self.is_none(f"show {name}")
            self.is_none(f"sides {name}")
            self.is_none(f"net {name} x")
            self.is_none(f"box {name} x")
            for line in (f"bounds {name} b", f"bounds b {name}", f"alike {name} a b", f"alike a {name} b", f"alike a b {name}",
                         f"behind {name} a a", f"behind a {name} a", f"behind a a {name}", f"opposite {name} a", f"opposite a {name}",
                         f"out {name} 1", f"weight {name} 0 0 0 1", f"always a {name} 0 1", f"most {name} b 1", f"most a {name} 1"):
                self.is_none(line)

    def test_whole_numbers(self):
        for word, number in (("0", 0), ("1", 1), ("9", 9), ("10", 10), ("42", 42), ("99", 99)):
            self.assertEqual(read_line(f"weight a {word} {word} {word} 1"), ("weight", "a", number, number, number, (1, 1)))
            self.assertEqual(read_line(f"number a {word} {word} 1"), ("number", "a", number, number, (1, 1)))
            self.assertEqual(read_line(f"always a b {word} 1"), ("always", "a", "b", number, (1, 1)))
            self.assertEqual(read_line(f"above a b {word}"), ("above", "a", "b", number))
        for word in ("00", "01", "09", "100", "-1", "+1", "-0", "1/1", "1/2", "a", "", "1.", "0x", "1_0", "_1", "010", "1 ", "9" * 30):
            for line in (f"weight a {word} 0 0 1", f"weight a 0 {word} 0 1", f"weight a 0 0 {word} 1", f"number a {word} 0 1",
                         f"number a 0 {word} 1", f"always a b {word} 1", f"above a b {word}"):
                self.is_none(line)

    def test_numbers(self):
        for word, number in (("0", (0, 1)), ("-5", (-5, 1)), ("3/4", (3, 4)), (LONG, (10 ** 29, 1)), ("-1/" + LONG, (-1, 10 ** 29))):
            self.assertEqual(read_line(f"weight a 0 0 0 {word}"), ("weight", "a", 0, 0, 0, number))
            self.assertEqual(read_line(f"number a 0 0 {word}"), ("number", "a", 0, 0, number))
            self.assertEqual(read_line(f"out a {word} {word}"), ("out", "a", (number, number)))
            self.assertEqual(read_line(f"paper a b {word}"), ("paper", "a", "b", (number,)))
            self.assertEqual(read_line(f"always a b 0 {word}"), ("always", "a", "b", 0, number))
        for word in ("2/4", "1/1", "-0", "+1", "01", "1/0", "1/-2", "0/1", "1/", "/2", "1.5", "a", "", LONG + "0", "1/" + LONG + "0", "1e3", "_"):
            for line in (f"weight a 0 0 0 {word}", f"number a 0 0 {word}", f"out a {word}", f"out a 1 {word}", f"out a {word} 1",
                         f"pattern a 1 2 3 {word}", f"most a b {word}", f"least a b 1 {word}", f"paper a b {word} 2", f"always a b 0 {word}"):
                self.is_none(line)

    def test_rows(self):
        for text, rows in (
            ("", ""), ("x", "x"), (" ", " "), ("a / b", "a\nb"), (" / ", "\n"), ("/", "/"), ("/ ", "/ "), (" /", " /"), ("1/2 / 3/4", "1/2\n3/4"),
            ("a/b", "a/b"), ("a /b", "a /b"), ("a/ b", "a/ b"), (" / / ", "\n/ "), (" /  / ", "\n\n"), ("a / / b", "a\n/ b"),
            ("a / / / b", "a\n/\nb"), ("/ / ", "/\n"), ("/ / a", "/\na"), (" / a / ", "\na\n"), ("  /  ", " \n "), ("//", "//"), ("a // b", "a // b"),
            ("a /  / b", "a\n\nb"), ("A ~ {}", "A ~ {}"), ("undo", "undo"), ("net a x / y", "net a x\ny"), ("a  /  b", "a \n b"),
        ):
            for word in ("net", "box"):
                self.assertEqual(read_line(f"{word} a {text}"), (word, "a", rows))
        for word in ("net", "box"):
            self.is_none(f"{word} a x\ny")
            self.is_none(f"{word} a \n")
            self.is_none(f"{word} a")
            self.is_none(f"{word} ")
            self.is_none(f"{word}  x")
            self.assertEqual(read_line(f"{word} a "), (word, "a", ""))

    def test_other_first_words(self):
        for word in ("", "nets", "ne", "Net", "redo", "undone", "und", "first", "kept", "cut", "two", "same", "-", "numbers", "rows", "new", "whole"):
            for rest in ("", " a", " a b", " a b 1", " a x"):
                self.is_none(word + rest)

    def test_any_other_thing(self):
        for thing in strange_things() + [b"undo", ["undo"], ("undo",), 0, 1, ("show", "a"), {"undo": 1}]:
            self.is_none(thing)

    def test_what_is_named_elsewhere(self):
        # A name may be that of a line, and a line's reading doesn't hang on what is kept.
        self.assertEqual(read_line("show show"), ("show", "show"))
        self.assertEqual(read_line("behind behind behind behind"), ("behind", "behind", "behind", "behind"))
        self.assertEqual(read_line("undo"), read_line("undo"))


if __name__ == "__main__":
    unittest.main()
