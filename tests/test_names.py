import copy
import unittest

from markshome import names
from markshome.names import ascending, is_name
from samples import KINDS, unharmed


class ConstantsTest(unittest.TestCase):
    def test_constants(self):
        told = [names.MOST_HOUSES, names.MOST_LINES, names.MOST_TREES, names.MOST_LOT_HOUSES, names.MOST_CHOICES,
                names.MOST_DAMAGES]
        self.assertEqual(told, [12, 30, 4, 9, 400, 200])


class IsNameTest(unittest.TestCase):
    def test_names(self):
        for text in ["a", "z", "h1", "a0", "z9", "abcdefgh", "a1234567", "zz9zz0zz", "none", "home"]:
            self.assertIs(is_name(text), True, text)

    def test_lengths(self):
        self.assertIs(is_name(""), False)
        self.assertIs(is_name("a"), True)
        self.assertIs(is_name("a" * 8), True)
        self.assertIs(is_name("a" * 9), False)
        self.assertIs(is_name("a" * 4000), False)

    def test_first_sign(self):
        for text in ["0", "9a", "1abc"]:
            self.assertIs(is_name(text), False, text)

    def test_other_signs(self):
        for text in ["A", "aB", "Z", "a_b", "a-b", "a.", "a`", "a{", "a/", "a:", "@a", "[a", "a,b", "a'"]:
            self.assertIs(is_name(text), False, text)

    def test_blanks(self):
        for text in [" ", "\n", " a", "a ", "a b", "\na", "a\n", "a\nb", "abcdefg\n", "abcdefg "]:
            self.assertIs(is_name(text), False, repr(text))

    def test_every_kind(self):
        for value in KINDS + [["a"], ("a", "b"), [["a"]]]:
            before = copy.deepcopy(value)
            self.assertIs(is_name(value), value == "a" and isinstance(value, str), repr(value))
            self.assertEqual(value, before)


class AscendingTest(unittest.TestCase):
    def test_the_example(self):
        self.assertEqual(ascending(["b", "a", "b", "a2"]), ["a", "a2", "b"])

    def test_tuple(self):
        self.assertEqual(ascending(("b", "a", "b")), ["a", "b"])

    def test_empty(self):
        self.assertEqual(ascending([]), [])
        self.assertEqual(ascending(()), [])

    def test_texts_that_are_no_names(self):
        self.assertEqual(ascending(["b", "", "B", "~", " ", "\n", "10", "9", "B"]),
                         ["", "\n", " ", "10", "9", "B", "b", "~"])

    def test_new_result(self):
        for texts in [[], ["a"], ["b", "a", "b"]]:
            unharmed(self, ascending, texts)


if __name__ == "__main__":
    unittest.main()
