import copy
import random
import unittest

from markshome.errors import BadName
from markshome.nets import Net
from markshome.tables import Table, read_table, write_table
from samples import KINDS, fork, parts, raised, unharmed

ROWS = [("a", 0, "ah", 1), ("a", 1, "ac", None), ("b", 0, "bc", 1), ("c", 1, "cb", 0)]
TEXT = "marks 2\na 0 ah 1\na 1 ac none\nb 0 bc 1\nc 1 cb 0"
FULL = [(f"x{k:02}", mark, "x", None) for k in range(12) for mark in range(4)]


class TableTest(unittest.TestCase):
    def test_parts(self):
        table = Table(2, ROWS)
        self.assertEqual((table.marks, table.entries), (2, ROWS))
        self.assertEqual((Table(0).marks, Table(0).entries), (0, []))
        self.assertEqual(Table(4, ()).entries, [])

    def test_any_order_list_or_tuple(self):
        for seed in range(10):
            mixed_up = random.Random(seed).sample(ROWS, len(ROWS))
            for rows in (mixed_up, tuple(mixed_up)):
                before = copy.deepcopy(rows)
                self.assertEqual(Table(2, rows).entries, ROWS)
                self.assertEqual(Table(2, rows), Table(2, ROWS))
                self.assertEqual(rows, before)
        self.assertEqual([row[:2] for row in Table(4, FULL[::-1]).entries], [row[:2] for row in FULL])

    def test_next_marks_of_every_kind(self):
        rows = [("a", 0, "x", 0), ("a", 1, "x", 0), ("a", 2, "x", 3), ("a", 3, "x", None)]
        self.assertEqual(Table(4, rows).entries, rows)

    def test_the_order_is_by_house_and_mark_alone(self):
        rows = [("a", 0, "z", None), ("a", 1, "b", 0), ("a2", 0, "a", 1), ("b", 0, "a", None)]
        self.assertEqual(Table(2, rows[::-1]).entries, rows)

    def test_entry(self):
        table = Table(2, ROWS)
        self.assertEqual([table.entry("a", 0), table.entry("a", 1), table.entry("c", 1)],
                         [("ah", 1), ("ac", None), ("cb", 0)])
        for house, mark in [("b", 1), ("c", 0), ("z", 0), ("a", 2), ("a", -1), ("a", 10 ** 59), ("", 0), ("A b", 1),
                            ("h", 0), ("a" * 4000, -10 ** 59)]:
            self.assertIsNone(table.entry(house, mark))
            self.assertIs((house, mark) in table, False)
        for house, mark, line, after in ROWS:
            self.assertEqual(table.entry(house, mark), (line, after))
            self.assertIs((house, mark) in table, True)

    def test_iteration(self):
        table = Table(2, ROWS[::-1])
        self.assertEqual(list(table), ROWS)
        self.assertEqual([(first, second) for first in table for second in table],
                         [(first, second) for first in ROWS for second in ROWS])
        self.assertEqual(list(Table(1)), [])

    def test_equal(self):
        table = Table(2, ROWS)
        self.assertIs(table == Table(2, tuple(ROWS[::-1])), True)
        for other in [Table(3, ROWS), Table(2, ROWS[:3]), Table(2), Table(2, ROWS[:3] + [("c", 1, "cb", None)]),
                      Table(2, ROWS[:3] + [("c", 1, "ca", 0)]), Table(2, ROWS[:3] + [("c", 0, "cb", 0)]), fork()]:
            self.assertIs(table == other, False)
            self.assertIs(other == table, False)
            self.assertIs(table != other, True)
        self.assertIs(Table(0) == Table(1), False)
        for value in KINDS + [ROWS, (2, ROWS), 2, TEXT]:
            self.assertIs(table == value, False)
            self.assertIs(value == table, False)

    def test_nothing_is_kept_and_every_list_is_new(self):
        rows = list(ROWS)
        table = Table(2, rows)
        rows.append(("d", 0, "x", None))
        rows[0] = None
        self.assertEqual(table.entries, ROWS)
        table.entries.append("spoilt")
        self.assertEqual(table.entries, ROWS)
        self.assertIsNot(table.entries, table.entries)
        self.assertEqual(parts([table.entry("a", 0)]), [[("ah", 1)]])


class ErrorsTest(unittest.TestCase):
    def test_names(self):
        self.assertEqual(raised(Table, 2, [("a", 0, "X", None), ("A", 0, "x", None)]), ("BadName", "X"))
        self.assertEqual(raised(Table, 2, [("a", 0, "x", None), ("B", 0, "Y", None)]), ("BadName", "B"))
        for text in ["", "A", "1a", "a b", "a" * 9, "a_", "none ", "a\n"]:
            self.assertEqual(raised(Table, 9, ROWS + [("a", 9, text, 9)]), ("BadName", text))
            self.assertEqual(raised(Table, 9, ROWS + [(text, 9, "x", 9)] * 60), ("BadName", text))
        with self.assertRaises(BadName):
            Table(2, (("", 0, "", None),))

    def test_marks(self):
        for marks in (-1, 5, 10 ** 59, -10 ** 59):
            self.assertEqual(raised(Table, marks), ("OutOfRange", "marks", marks))
            self.assertEqual(raised(Table, marks, [("a", 9, "x", -1)] * 49), ("OutOfRange", "marks", marks))

    def test_mark_and_next(self):
        self.assertEqual(raised(Table, 2, [("a", 2, "x", None)]), ("OutOfRange", "mark", 2))
        self.assertEqual(raised(Table, 2, [("a", -1, "x", None)]), ("OutOfRange", "mark", -1))
        self.assertEqual(raised(Table, 2, [("a", 1, "x", 2)]), ("OutOfRange", "next", 2))
        self.assertEqual(raised(Table, 2, [("a", 1, "x", -1)]), ("OutOfRange", "next", -1))
        self.assertEqual(raised(Table, 0, [("a", 0, "x", None)]), ("OutOfRange", "mark", 0))
        self.assertEqual(raised(Table, 2, [("a", 0, "x", 7), ("a", 8, "x", 9)]), ("OutOfRange", "next", 7))
        self.assertEqual(raised(Table, 2, [("a", 8, "x", 7), ("a", 9, "x", 6)]), ("OutOfRange", "mark", 8))
        self.assertEqual(raised(Table, 2, [("a", 0, "x", 1), ("a", 8, "x", 7)]), ("OutOfRange", "mark", 8))
        self.assertEqual(raised(Table, 4, FULL + [("a", 0, "x", 4)]), ("OutOfRange", "next", 4))

    def test_too_many_entries(self):
        self.assertEqual(len(Table(4, FULL).entries), 48)
        self.assertEqual(raised(Table, 4, FULL + [("a", 0, "x", None)]), ("TooMany", "entries", 49, 48))
        self.assertEqual(raised(Table, 4, FULL + FULL[:2]), ("TooMany", "entries", 50, 48))
        self.assertEqual(raised(Table, 1, [("a", 0, "x", None)] * 400), ("TooMany", "entries", 400, 48))

    def test_repeated_pairs(self):
        self.assertEqual(raised(Table, 2, ROWS + [("c", 1, "cb", 0)]), ("BadTable", "c", 1))
        self.assertEqual(raised(Table, 2, ROWS + [("b", 0, "other", None), ("a", 0, "ah", 1)]), ("BadTable", "b", 0))
        self.assertEqual(raised(Table, 4, FULL[:47] + [FULL[0]]), ("BadTable", "x00", 0))


class TextTest(unittest.TestCase):
    def test_write(self):
        self.assertEqual(write_table(Table(2, ROWS[::-1])), TEXT)
        self.assertEqual(write_table(Table(0)), "marks 0")
        self.assertEqual(write_table(Table(4)), "marks 4")

    def test_read(self):
        self.assertEqual(read_table(TEXT), Table(2, ROWS))
        self.assertEqual(read_table("marks 0"), Table(0))
        self.assertEqual(read_table("marks 4\nnone 3 none none"), Table(4, [("none", 3, "none", None)]))

    def test_rows_in_any_order(self):
        first, *rows = TEXT.split("\n")
        for seed in range(10):
            text = "\n".join([first] + random.Random(seed).sample(rows, len(rows)))
            self.assertEqual(read_table(text).entries, ROWS)

    def test_there_and_back(self):
        for seed in range(60):
            chance = random.Random(seed)
            marks = chance.randint(0, 4)
            pairs = [(f"x{k}", mark) for k in range(12) for mark in range(marks)]
            rows = [(house, mark, chance.choice("abc"), chance.choice([None, *range(marks)]))
                    for house, mark in chance.sample(pairs, chance.randint(0, len(pairs)))]
            table = Table(marks, rows)
            self.assertEqual(read_table(write_table(table)), table)
        self.assertEqual(read_table(write_table(Table(4, FULL))), Table(4, FULL))

    def test_faults_of_the_first_row(self):
        for text, place in [("", 1), ("mark 2", 1), (" marks 2", 1), ("Marks 2", 1), ("marks", 6), ("marks ", 7),
                            ("marks 5", 7), ("marks -1", 7), ("marks 02", 7), ("marks x", 7), ("marks 2 ", 9),
                            ("marks 2 3", 9), ("marks  2", 7), ("a 0 x none", 1), ("\nmarks 2", 1),
                            ("marks 5 x\na", 7), ("marks 10", 7), ("marks none", 7)]:
            self.assertEqual(raised(read_table, text), ("BadText", 1, place), text)

    def test_faults_of_a_row(self):
        for row, place in [("", 1), (" ", 1), ("A 0 x none", 1), ("1 0 x none", 1), (" a 0 x none", 1),
                           ("a", 2), ("a ", 3), ("a 2 x none", 3), ("a -1 x none", 3), ("a 00 x none", 3),
                           ("a none x none", 3), ("a x 0 none", 3), ("a  0 x none", 3), ("a 4 x none", 3),
                           ("a 0", 4), ("a 0 ", 5), ("a 0 X none", 5), ("a 0 0 none", 5), ("a 0  x none", 5),
                           ("a 0 x", 6), ("a 0 x ", 7), ("a 0 x 2", 7), ("a 0 x None", 7), ("a 0 x -1", 7),
                           ("a 0 x nones", 7), ("a 0 x 01", 7), ("a 0 x  1", 7), ("a 0 x none ", 12),
                           ("a 0 x 1 x", 9), ("a 0 x 1  ", 9), ("abcdefgh 0 xyzxyz12 1 1", 23),
                           ("abcdefghi 0 x 1", 1), ("abcdefgh 9 X 9", 10), ("marks 2", 7), ("marks 1", 8), ("marks 2 x none", 7),
                           ("A", 1), ("a 9", 3), ("a 0 X", 5)]:
            self.assertEqual(raised(read_table, "marks 2\n" + row), ("BadText", 2, place), row)
            self.assertEqual(raised(read_table, "marks 2\nb 1 y 0\n" + row + "\n"), ("BadText", 3, place), row)
        self.assertEqual(raised(read_table, TEXT + "\n"), ("BadText", 6, 1))
        self.assertEqual(raised(read_table, "marks 0\na 0 x none"), ("BadText", 2, 3))
        self.assertEqual(raised(read_table, "marks 1\na 0 x 1"), ("BadText", 2, 7))

    def test_repeated_pairs(self):
        self.assertEqual(raised(read_table, TEXT + "\nab 0 x none\nab 0 x none"), ("BadText", 7, 4))
        self.assertEqual(raised(read_table, TEXT + "\na 1 X 9 9"), ("BadText", 6, 3))
        self.assertEqual(raised(read_table, TEXT + "\na 1"), ("BadText", 6, 3))
        self.assertEqual(raised(read_table, TEXT + "\na"), ("BadText", 6, 2))
        self.assertIsNone(raised(read_table, TEXT + "\nb 1 bh none"))

    def test_the_entry_behind_the_last(self):
        text = write_table(Table(4, FULL))
        for row in ["a 0 x none", "x00 0 x none", "A", ""]:
            self.assertEqual(raised(read_table, text + "\n" + row), ("BadText", 50, 1))
        rows = text.split("\n")
        rows[30] = "x07 9 x none"
        self.assertEqual(raised(read_table, "\n".join(rows + ["a 0 x none"])), ("BadText", 31, 5))

    def test_results_are_equal_each_time(self):
        unharmed(self, read_table, TEXT)
        unharmed(self, write_table, Table(2, ROWS))
        self.assertEqual(write_table(Table(2, ROWS)), write_table(Table(2, tuple(ROWS[::-1]))))
        self.assertFalse(read_table(TEXT) == Net("h"))


if __name__ == "__main__":
    unittest.main()
