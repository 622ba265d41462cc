"""The book: nets that are filed by name, changed and asked row by row.

A filed net is a tuple (net, broken, count, log) with the list of its broken
lines. The count and the log are None if the net is not built. No part of a
filed net is ever changed: each row that changes one files another tuple.
"""

from markshome.builder import build, grove_of_log
from markshome.buildlog import is_log
from markshome.changes import lead_log, put_line, take_line
from markshome.checks import check_houses, check_lines, check_many
from markshome.errors import Duplicate, HomeError, Unlike
from markshome.marks import table_of
from markshome.names import ascending
from markshome.nets import Net
from markshome.runs import lost, run_letter
from markshome.script import read_row
from markshome.stops import all_damages, first_stop

MOST_NETS = 8
MOST_ROWS = 60


def sizes(net):
    """The answer that tells the numbers of houses and lines."""
    return f"houses {len(net.houses)} lines {len(net.line_names)}"


def with_names(text, names):
    """The text, and behind it each of the names behind a space."""
    return " ".join([text] + names)


def check_built(filed):
    """Raise Unlike for a filed net that is not built."""
    if filed[2] is None:
        raise Unlike("build")


def grove_built(filed):
    """The grove of a filed net that is built."""
    net, _, count, log = filed
    return grove_of_log(net, count, log)


def table_built(filed):
    """The table of a filed net that is built."""
    return table_of(filed[0], grove_built(filed))


def do_net(filed_nets, name, home):
    """File a net with home alone beside the nets that are filed."""
    check_many("nets", len(filed_nets) + 1, MOST_NETS)
    if name in filed_nets:
        raise Duplicate(name)
    net = Net(home)
    return ((net, [], None, None), sizes(net))


def do_house(filed, house):
    """Add a house. The net is then not built."""
    net = Net(filed[0].home, filed[0].others + [house], filed[0].lines)
    return ((net, filed[1], None, None), sizes(net))


def refiled(net, broken, count, log):
    """File a net whose lines have changed, with its old log led along."""
    if count is None:
        return ((net, broken, None, None), sizes(net))
    whole, kept, lot = lead_log(net, count, log)
    if whole is None:
        return ((net, broken, None, None), with_names("lot", lot))
    return ((net, broken, count, whole), f"kept {kept} of {len(whole)}")


def do_line(filed, line, tail, head):
    """Put a line in."""
    net, broken, count, log = filed
    return refiled(put_line(net, line, tail, head), broken, count, log)


def do_cut(filed, line):
    """Take a line out."""
    net, broken, count, log = filed
    return refiled(take_line(net, line), [other for other in broken if other != line], count, log)


def do_build(filed, count):
    """Build so many trees."""
    net, broken, _, _ = filed
    _, log, lot = build(net, count)
    if log is None:
        return ((net, broken, None, None), with_names("lot", lot))
    return ((net, broken, count, log), f"trees {count}")


def do_break(filed, line):
    """Break a line."""
    net, broken, count, log = filed
    check_lines(net, [line])
    hit = ascending(broken + [line])
    return ((net, hit, count, log), with_names("broken", hit))


def do_mend(filed, line):
    """Mend a line."""
    net, broken, count, log = filed
    check_lines(net, [line])
    left = [other for other in broken if other != line]
    return ((net, left, count, log), with_names("broken", left))


def do_send(filed, house):
    """Run a letter from the house."""
    check_houses(filed[0], [house])
    check_built(filed)
    run = run_letter(filed[0], table_built(filed), house, broken=filed[1])
    return (filed, f"{run.end} {run.steps} {run.turns}")


def do_each(filed):
    """Run a letter from every house but home."""
    check_built(filed)
    many = len(filed[0].others)
    stopped = lost(filed[0], table_built(filed), broken=filed[1])
    return (filed, f"home {many - len(stopped)} of {many}")


def do_worst(filed, most):
    """Look for the first stop of at most `most` lines."""
    # Too many damages come ahead of a net that is not built.
    all_damages(filed[0], most)
    check_built(filed)
    stop = first_stop(filed[0], table_built(filed), most)
    if stop is None:
        return (filed, "holds")
    return (filed, with_names(f"stops {stop[1]} by", stop[0]))


# Each of these takes a filed net and the words behind its name, and returns the net to file and the answer.
DEEDS = {
    "house": do_house, "line": do_line, "cut": do_cut, "build": do_build, "break": do_break, "mend": do_mend,
    "send": do_send, "each": do_each, "worst": do_worst,
}


def carried_out(filed_nets, words):
    """The tuple of the net to file and the answer, for the words of a row and the nets that are filed."""
    if words[0] == "net":
        return do_net(filed_nets, words[1], words[2])
    if words[1] not in filed_nets:
        raise Unlike("name")
    deed = DEEDS[words[0]]
    more = words[2:]
    return deed(filed_nets[words[1]], *more)


class Book:
    """A book of nets that are filed by name. It changes by its rows, and by taking the last one back."""

    def __init__(self):
        self._rows = []
        # A dict from names to filed nets, and for each row the dict of the moment ahead of it.
        self._filed = {}
        self._past = []

    @property
    def rows(self):
        """The kept rows as tuples (row, answer), in order."""
        return list(self._rows)

    @property
    def names(self):
        """The names of the filed nets, ascending."""
        return sorted(list(self._filed))

    def do(self, row):
        """Carry the row out, keep it, and return the answer."""
        words = read_row(row)
        check_many("rows", len(self._rows) + 1, MOST_ROWS)
        filed, answer = carried_out(self._filed, words)
        self._past.append(self._filed)
        self._filed = {**self._filed, words[1]: filed}
        self._rows.append((row, answer))
        return answer

    def undo(self):
        """Remove the last kept row as if it had never been carried out, and return its text."""
        if self._rows == []:
            raise Unlike("rows")
        self._filed = self._past.pop()
        return self._rows.pop()[0]

    def twin(self):
        """A new book with the same rows and the same state."""
        other = Book()
        other._rows = list(self._rows)
        other._filed = dict(self._filed)
        other._past = list(self._past)
        return other

    def _filed_net(self, name):
        if name not in self._filed:
            raise Unlike("name")
        return self._filed[name]

    def _built_net(self, name):
        filed = self._filed_net(name)
        check_built(filed)
        return filed

    def net(self, name):
        """The net of this name."""
        return self._filed_net(name)[0]

    def broken_lines(self, name):
        """The broken lines of the net, ascending."""
        return list(self._filed_net(name)[1])

    def built(self, name):
        """The number of trees of the net, or None if it is not built."""
        return self._filed_net(name)[2]

    def log(self, name):
        """The log of the built net."""
        return list(self._built_net(name)[3])

    def grove(self, name):
        """The grove of the built net."""
        return grove_built(self._built_net(name))

    def table(self, name):
        """The table of the built net."""
        return table_built(self._built_net(name))

    def __eq__(self, other):
        return isinstance(other, Book) and self._rows == other._rows

    def __iter__(self):
        return iter(self._rows)


def replay(rows):
    """A new book in which the rows were carried out in order."""
    book = Book()
    for row in rows:
        book.do(row)
    return book


def gives(book, row, answer):
    """True if the book carries the row out, and with this answer."""
    try:
        return book.do(row) == answer
    except HomeError:
        return False


def audit(pairs):
    """The number of the first row that raises an error or gives another answer in a new book, or None."""
    book = Book()
    for number, (row, answer) in enumerate(pairs, start=1):
        if not gives(book, row, answer):
            return number
    return None


def first_unlike(first, second):
    """The number of the first row in which the books differ, or that only one of them has, or None."""
    rows = first.rows
    others = second.rows
    for index in range(max(len(rows), len(others))):
        if rows[index:index + 1] != others[index:index + 1]:
            return index + 1
    return None


def is_sound_net(book, name):
    """True if the net's broken lines are lines of it, and its log, if it is built, is right and whole."""
    net = book.net(name)
    if not all([line in net for line in book.broken_lines(name)]):
        return False
    return book.built(name) is None or is_log(net, book.built(name), book.log(name))


def is_sound(book):
    """True if the value is a book in which all nets are sound."""
    return isinstance(book, Book) and all([is_sound_net(book, name) for name in book.names])
