import itertools
import unittest

from markshome.script import read_row, write_row
from samples import raised, unharmed

ROWS = {
    "net n h": ("net", "n", "h"), "house n a": ("house", "n", "a"), "line n x a h": ("line", "n", "x", "a", "h"),
    "cut n x": ("cut", "n", "x"), "break n x": ("break", "n", "x"), "mend n x": ("mend", "n", "x"),
    "send n a": ("send", "n", "a"), "each n": ("each", "n"),
    **{f"build n {count}": ("build", "n", count) for count in range(5)},
    **{f"worst n {most}": ("worst", "n", most) for most in range(4)},
    "net net home": ("net", "net", "home"), "line line line line line": ("line", "line", "line", "line", "line"),
    "each each": ("each", "each"), "send abcdefgh z9876543": ("send", "abcdefgh", "z9876543"),
    "build build 0": ("build", "build", 0), "worst worst 3": ("worst", "worst", 3),
}


class ReadTest(unittest.TestCase):
    def test_every_row(self):
        for text, words in ROWS.items():
            self.assertEqual(read_row(text), words)
            self.assertIsInstance(read_row(text), tuple)
            for word, other in zip(read_row(text), words):
                self.assertIs(type(word), type(other))

    def test_faults(self):
        for text, place in [
                # The first word.
                ("", 1), (" ", 1), (" net n h", 1), ("Net n h", 1), ("nets n h", 1), ("twin n", 1), ("undo", 1),
                ("\n", 1), ("net\nn h", 1), ("\nnet n h", 1), ("name n", 1), ("count 3", 1), ("1 2 3", 1),
                # A word that is missing.
                ("net", 4), ("net n", 6), ("line", 5), ("line n", 7), ("line n x", 9), ("line n x a", 11), ("each", 5),
                ("build n", 8), ("build", 6), ("worst n", 8), ("send abcdefgh", 14),
                # An empty word.
                ("net ", 5), ("net n ", 7), ("net  h", 5), ("net  n h", 5), ("net n  h", 7), ("each ", 6),
                ("build n ", 9), ("build  3", 7), ("worst n ", 9), ("line n x  h", 10),
                # A word too many.
                ("net n h x", 9), ("net n h ", 9), ("each n ", 8), ("each n n", 8), ("build n 3 4", 11),
                ("worst n 3 ", 11), ("line n x a h  ", 14), ("line n x a h a h", 14), ("mend n x y z", 10),
                # A name that is none.
                ("net N h", 5), ("net n H", 7), ("net 1 h", 5), ("house n a-", 9), ("house n abcdefghi", 9),
                ("line n x a 9", 12), ("line n x A h", 10), ("line n X A H", 8), ("each \n", 6), ("each n\n", 6),
                ("send n\na b", 6), ("net n\nhouse n a", 5), ("cut n x\n", 7), ("mend n ~", 8),
                # A number that is none.
                ("build n 5", 9), ("build n 9", 9), ("build n -1", 9), ("build n 03", 9), ("build n 3\n", 9),
                ("build n three", 9), ("build n 10", 9), ("build n +3", 9), ("worst n 4", 9), ("worst n 5", 9),
                ("worst n -1", 9), ("worst n 00", 9), ("worst n none", 9), ("build n 3x", 9), ("build n 012", 9),
                ("build n 01234", 9), ("worst n 12", 9), ("build n " + "1" * 3000, 9),
                # The first of several.
                ("build N 5 6", 7), ("build n 5 6", 9), ("net N", 5), ("line N", 6), ("line n X", 8), ("each N n", 6),
                ("build n 4 4", 11), ("worst n 4 x", 9)]:
            self.assertEqual(raised(read_row, text), ("BadText", 1, place), text)

    def test_each_word_of_each_row(self):
        for text, words in ROWS.items():
            parts = text.split(" ")
            for index in range(len(parts)):
                place = 1 + sum(len(part) + 1 for part in parts[:index])
                for wrong in ("", "A", "7", "x\n", "~", "abcdefghi"):
                    other = " ".join(parts[:index] + [wrong] + parts[index + 1:])
                    self.assertEqual(raised(read_row, other), ("BadText", 1, place), other)
                if index:
                    short = " ".join(parts[:index])
                    self.assertEqual(raised(read_row, short), ("BadText", 1, len(short) + 1), short)
            self.assertEqual(raised(read_row, text + " x"), ("BadText", 1, len(text) + 2), text)


class WriteTest(unittest.TestCase):
    def test_every_row(self):
        for text, words in ROWS.items():
            self.assertEqual(write_row(words), text)
            self.assertEqual(write_row(read_row(text)), text)

    def test_what_is_no_row(self):
        for wrong in [(), ("",), ("net",), ("net", "n"), ("net", "n", "h", "x"), ("net", "n", "H"), ("net", "N", "h"),
                      ("net", "n", ""), ("net", "n", 1), ("net", 1, "h"), (1, "n", "h"), ("Net", "n", "h"),
                      ("net n h",), ("net", "n h"), ("each",), ("each", "n", ""), ("each", "n n"), ("each", 0), (0,),
                      ("build", "n", 5), ("build", "n", -1), ("build", "n", "3"), ("build", "n", 10 ** 59),
                      ("build", "n"), ("build", "n", 3, 3), ("worst", "n", 4), ("worst", "n", "0"), ("worst", "n", -1),
                      ("worst", "n", 30), ("line", "n", "x", "a"), ("line", "n", "x", "a", "h", "h"),
                      ("line", "n", "x", "a\n", "h"), ("house", "n", "abcdefghi"), ("", "n", "h"), ("undo",),
                      (3, 3, 3), ("worst", 3, "n"), ("name", "n"), ("send", "n", "a ")]:
            self.assertEqual(raised(write_row, wrong), ("Unlike", "row"), wrong)

    def test_exactly_what_is_read(self):
        words = ["net", "house", "line", "build", "worst", "each", "n", "N", "", 0, 3, 4, "3"]
        rows = set()
        for size in range(4):
            for chosen in itertools.product(words, repeat=size):
                text = " ".join(str(word) for word in chosen)
                right = raised(read_row, text) is None and read_row(text) == chosen
                self.assertEqual(raised(write_row, chosen), None if right else ("Unlike", "row"))
                if right:
                    self.assertEqual(write_row(chosen), text)
                    rows.add(chosen[0])
        self.assertEqual(rows, {"net", "house", "build", "worst", "each"})


class FreshTest(unittest.TestCase):
    def test_arguments_and_results(self):
        for text, words in ROWS.items():
            self.assertEqual(unharmed(self, read_row, text), words)
            self.assertEqual(unharmed(self, write_row, words), text)


if __name__ == "__main__":
    unittest.main()
