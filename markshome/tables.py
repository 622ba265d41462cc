"""Tables: for each house and mark a line, and the mark to take if that line is broken."""

from markshome.checks import check_many, check_names, check_range
from markshome.errors import BadTable
from markshome.names import MOST_TREES, is_name
from markshome.nettext import check_row, word_at

MOST_ENTRIES = 48


def check_entry_marks(marks, entry):
    """Raise OutOfRange for the first of the two marks of an entry that is none of the table."""
    _, mark, _, after = entry
    check_range("mark", mark, 0, marks - 1)
    if after is not None:
        check_range("next", after, 0, marks - 1)


def check_table(marks, entries):
    """Raise the first error of the parts of a table."""
    check_names([text for house, _, line, _ in entries for text in (house, line)])
    check_range("marks", marks, 0, MOST_TREES)
    for entry in entries:
        check_entry_marks(marks, entry)
    check_many("entries", len(entries), MOST_ENTRIES)
    pairs = [(house, mark) for house, mark, _, _ in entries]
    for place, (house, mark) in enumerate(pairs):
        if (house, mark) in pairs[:place]:
            raise BadTable(house, mark)


class Table:
    """A table with a number of marks and entries (house, mark, line, next). It never changes."""

    def __init__(self, marks, entries=()):
        check_table(marks, entries)
        self.marks = marks
        self._entries = sorted(entries)
        self._rows = {(house, mark): (line, after) for house, mark, line, after in entries}

    @property
    def entries(self):
        """The entries as tuples of four, ascending by house and mark."""
        return list(self._entries)

    def entry(self, house, mark):
        """The line and the next mark of the house and mark, or None if there is no entry."""
        return self._rows.get((house, mark))

    def __eq__(self, other):
        return isinstance(other, Table) and self.marks == other.marks and self._entries == other._entries

    def __contains__(self, pair):
        return pair in self._rows

    def __iter__(self):
        return iter(self._entries)


def marks_right(words):
    """Which words of the first row are right."""
    return [words[0] == "marks", word_at(words, 1) in [str(marks) for marks in range(MOST_TREES + 1)]]


def entry_right(words, marks, entries):
    """Which words of an entry's row are right behind rows that gave these entries."""
    digits = [str(mark) for mark in range(marks)]
    house, mark, line, after = [word_at(words, index) for index in range(4)]
    present = [(entry[0], str(entry[1])) for entry in entries]
    first = is_name(house) and len(entries) < MOST_ENTRIES
    fresh = mark in digits and (house, mark) not in present
    return [first, fresh, is_name(line), after in digits or after == "none"]


def read_table(text):
    """The table of a text. Raises BadText for the first fault."""
    rows = [row.split(" ") for row in text.split("\n")]
    check_row(1, rows[0], marks_right(rows[0]))
    marks = int(rows[0][1])
    entries = []
    for number, words in enumerate(rows[1:], start=2):
        check_row(number, words, entry_right(words, marks, entries))
        after = None if words[3] == "none" else int(words[3])
        entries.append((words[0], int(words[1]), words[2], after))
    return Table(marks, entries)


def entry_text(entry):
    """The row of an entry."""
    house, mark, line, after = entry
    last = "none" if after is None else str(after)
    return f"{house} {mark} {line} {last}"


def write_table(table):
    """The text of a table: its number of marks, then its entries in their order."""
    return "\n".join([f"marks {table.marks}"] + [entry_text(entry) for entry in table])
