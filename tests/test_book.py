import copy
import random
import unittest

from markshome.book import Book, audit, first_unlike, is_sound, replay
from markshome.builder import build, grove_of_log
from markshome.buildlog import is_log
from markshome.changes import lead_log, right_start
from markshome.diary import Diary
from markshome.flows import strength, weakest_lot
from markshome.marks import table_of
from markshome.nets import Net
from markshome.runs import run_letter
from markshome.script import read_row
from markshome.stops import first_stop
from markshome.tables import Table
from samples import FORK_LINES, KINDS, fork, plain_damages, plain_run, raised

EXAMPLE = ["net n h", "house n a", "line n x a h", "build n 2", "build n 1"]
ANSWERS = ["houses 1 lines 0", "houses 2 lines 0", "houses 2 lines 1", "lot a", "trees 1"]
FORK_ROWS = ["net n h", "house n a", "house n b", "house n c"] + [f"line n {name} {tail} {head}"
                                                                 for name, tail, head in FORK_LINES]


def filed(book):
    """All that a book tells of its nets."""
    told = {}
    for name in book.names:
        built = book.built(name)
        net = book.net(name)
        told[name] = (net.home, net.houses, net.lines, book.broken_lines(name), built,
                      None if built is None else book.log(name), None if built is None else book.grove(name),
                      None if built is None else (book.table(name).marks, book.table(name).entries))
    return told


def state(book):
    """All that a book tells."""
    return (book.rows, book.names, filed(book))


def loops(many):
    """The rows of a net of home alone with so many loops."""
    return ["net n h"] + [f"line n l{k:02} h h" for k in range(many)]


class Shelf:
    """A plain book: it works each answer out anew from the parts of its nets."""

    def __init__(self):
        self.rows = []
        self.nets = {}

    def net(self, name):
        home, houses, lines, _, _, _ = self.nets[name]
        return Net(home, houses, lines)

    def due(self, text):
        """The error that the row must raise, or None."""
        if raised(read_row, text) is not None:
            return raised(read_row, text)
        kind, name, *more = read_row(text)
        if len(self.rows) == 60:
            return ("TooMany", "rows", 61, 60)
        if kind == "net":
            if len(self.nets) == 8:
                return ("TooMany", "nets", 9, 8)
            return ("Duplicate", name) if name in self.nets else None
        if name not in self.nets:
            return ("Unlike", "name")
        home, houses, lines, _, count, _ = self.nets[name]
        names = [line[0] for line in lines]
        if kind == "house":
            if len(houses) == 11:
                return ("TooMany", "houses", 13, 12)
            return ("Duplicate", more[0]) if more[0] in [home, *houses] else None
        if kind == "line":
            if len(lines) == 30:
                return ("TooMany", "lines", 31, 30)
            if more[0] in names:
                return ("Duplicate", more[0])
            unknown = [house for house in more[1:] if house not in [home, *houses]]
            return ("UnknownHouse", unknown[0]) if unknown else None
        if kind in ("cut", "break", "mend"):
            return None if more[0] in names else ("UnknownLine", more[0])
        if kind == "send" and more[0] not in [home, *houses]:
            return ("UnknownHouse", more[0])
        if kind == "worst" and len(plain_damages(self.net(name), more[0])) > 200:
            return ("TooMany", "damages", len(plain_damages(self.net(name), more[0])), 200)
        return ("Unlike", "build") if kind in ("send", "each", "worst") and count is None else None

    def do(self, text):
        """Carry a row out that raises no error, and return the answer."""
        kind, name, *more = read_row(text)
        if kind == "net":
            self.nets[name] = (more[0], [], [], [], None, None)
            answer = "houses 1 lines 0"
        elif kind in ("send", "each", "worst"):
            answer = self.ask(kind, name, more)
        else:
            answer = self.change(kind, name, more)
        self.rows.append((text, answer))
        return answer

    def change(self, kind, name, more):
        home, houses, lines, broken, count, log = self.nets[name]
        if kind == "house":
            houses, count, log = houses + more, None, None
        if kind == "line":
            lines = lines + [tuple(more)]
        if kind == "cut":
            lines = [line for line in lines if line[0] != more[0]]
        if kind in ("cut", "mend"):
            broken = [line for line in broken if line != more[0]]
        if kind == "break":
            broken = sorted(set(broken + more))
        net = Net(home, houses, lines)
        answer = f"houses {len(houses) + 1} lines {len(lines)}"
        if kind in ("break", "mend"):
            answer = "broken" + "".join(" " + line for line in broken)
        elif kind == "build":
            count, log = more[0], build(net, more[0])[1]
            answer = f"trees {count}"
        elif count is not None:
            kept = right_start(net, count, log)
            log = lead_log(net, count, log)[0]
            answer = f"kept {kept} of {count * len(houses)}"
        if count is not None and log is None:
            count = None
            answer = "lot" + "".join(" " + house for house in weakest_lot(net))
        self.nets[name] = (home, houses, lines, broken, count, log)
        return answer

    def ask(self, kind, name, more):
        _, _, _, broken, count, log = self.nets[name]
        net = self.net(name)
        table = table_of(net, grove_of_log(net, count, log))
        if kind == "send":
            _, _, end, moves = plain_run(net, table, more[0], 0, broken)
            kinds = [move[0] for move in moves]
            return f"{end} {kinds.count('pass')} {kinds.count('turn')}"
        if kind == "each":
            ends = [plain_run(net, table, house, 0, broken)[2] for house in net.others]
            return f"home {ends.count('home')} of {len(ends)}"
        for damage in plain_damages(net, more[0]):
            for house in net.others:
                if plain_run(net, table, house, 0, damage)[2] != "home":
                    return " ".join(["stops", house, "by"] + damage)
        return "holds"


def some_row(chance, shelf):
    """A row by chance, most often one that can be carried out."""
    names = list(shelf.nets) or ["n"]
    name = chance.choice(names + ["m", "k"][:chance.randint(0, 1)])
    home, houses, lines, _, _, _ = shelf.nets.get(name, ("h", [], [], [], None, None))
    places = [home] + houses
    rows = [f"net {chance.choice('nmk')} h", f"house {name} {chance.choice('abcdz')}",
            f"build {name} {chance.randint(0, 3)}", f"send {name} {chance.choice(places)}", f"each {name}",
            f"worst {name} {chance.randint(0, 3)}", f"house {name} {home}", f"send {name} z", f"cut {name} z",
            f"break {name} z", f"net {name}", f"build {name} 5", f"line {name} z z z"]
    weights = [1, 3, 6, 3, 2, 1, 0.3, 0.3, 0.3, 0.3, 0.1, 0.1, 0.3]
    for _ in range(3):
        rows.append(f"line {name} l{chance.randint(0, 20)} {chance.choice(houses or places)} {chance.choice(places)}")
        weights.append(5)
    for kind in ("cut", "break", "mend"):
        if lines:
            rows.append(f"{kind} {name} {chance.choice(lines)[0]}")
            weights.append(2)
    return chance.choices(rows, weights)[0]


class ExampleTest(unittest.TestCase):
    def test_the_example(self):
        book = replay(EXAMPLE)
        self.assertEqual([answer for _, answer in book.rows], ANSWERS)
        self.assertEqual([book.do("line n y a h"), book.do("cut n x"), book.do("break n y"), book.do("send n a")],
                         ["kept 1 of 1", "kept 0 of 1", "broken y", "stuck 0 0"])

    def test_empty(self):
        book = Book()
        self.assertEqual((book.rows, book.names, list(book)), ([], [], []))
        self.assertIs(is_sound(book), True)


class RowTest(unittest.TestCase):
    def test_net(self):
        book = Book()
        self.assertEqual(book.do("net n home"), "houses 1 lines 0")
        self.assertEqual(book.do("net a home"), "houses 1 lines 0")
        self.assertEqual(book.names, ["a", "n"])
        self.assertEqual(book.net("n"), Net("home"))
        self.assertEqual((book.built("n"), book.broken_lines("n")), (None, []))
        self.assertEqual(raised(book.do, "net n x"), ("Duplicate", "n"))
        self.assertEqual(book.do("house n n"), "houses 2 lines 0")
        self.assertEqual(book.net("n"), Net("home", ["n"]))

    def test_most_nets(self):
        book = replay([f"net n{k} h" for k in range(8)])
        self.assertEqual(raised(book.do, "net n8 h"), ("TooMany", "nets", 9, 8))
        self.assertEqual(raised(book.do, "net n0 h"), ("TooMany", "nets", 9, 8))
        self.assertEqual(len(book.rows), 8)
        book.undo()
        self.assertEqual(book.do("net m h"), "houses 1 lines 0")
        self.assertEqual(book.names, ["m"] + [f"n{k}" for k in range(7)])

    def test_house(self):
        book = replay(["net n h"])
        self.assertEqual([book.do("house n b"), book.do("house n a")], ["houses 2 lines 0", "houses 3 lines 0"])
        self.assertEqual(raised(book.do, "house n b"), ("Duplicate", "b"))
        self.assertEqual(raised(book.do, "house n h"), ("Duplicate", "h"))
        for k in range(9):
            self.assertEqual(book.do(f"house n x{k}"), f"houses {4 + k} lines 0")
        self.assertEqual(raised(book.do, "house n c"), ("TooMany", "houses", 13, 12))
        self.assertEqual(raised(book.do, "house n h"), ("TooMany", "houses", 13, 12))
        self.assertEqual(raised(book.do, "house n b"), ("TooMany", "houses", 13, 12))

    def test_house_undoes_the_building(self):
        book = replay(EXAMPLE + ["break n x"])
        self.assertEqual(book.do("house n b"), "houses 3 lines 1")
        self.assertIsNone(book.built("n"))
        self.assertEqual(book.broken_lines("n"), ["x"])
        self.assertEqual(raised(book.log, "n"), ("Unlike", "build"))

    def test_line(self):
        book = replay(["net n h", "house n a", "house n b"])
        self.assertEqual(book.do("line n a a h"), "houses 3 lines 1")
        self.assertEqual(book.do("line n b a a"), "houses 3 lines 2")
        self.assertEqual(raised(book.do, "line n a y z"), ("Duplicate", "a"))
        self.assertEqual(raised(book.do, "line n c y z"), ("UnknownHouse", "y"))
        self.assertEqual(raised(book.do, "line n c a z"), ("UnknownHouse", "z"))
        full = replay(loops(30))
        self.assertEqual(full.rows[-1][1], "houses 1 lines 30")
        self.assertEqual(raised(full.do, "line n l00 y z"), ("TooMany", "lines", 31, 30))
        self.assertEqual(raised(full.do, "line m l00 y z"), ("Unlike", "name"))

    def test_line_in_a_built_net(self):
        book = replay(FORK_ROWS + ["build n 2"])
        log = book.log("n")
        self.assertEqual(book.do("line n new c h"), "kept 6 of 6")
        self.assertEqual(book.log("n"), log)
        self.assertEqual(book.built("n"), 2)
        for count in (0, 3):
            alone = replay(loops(1) + [f"build n {count}"])
            self.assertEqual(alone.do("line n x h h"), "kept 0 of 0")
            self.assertEqual(alone.do("cut n x"), "kept 0 of 0")
            self.assertEqual((alone.built("n"), alone.log("n"), alone.grove("n")), (count, [], [[]] * count))
        none = replay(FORK_ROWS + ["build n 0"])
        self.assertEqual([none.do("line n new c h"), none.do("cut n ah"), none.built("n")],
                         ["kept 0 of 0", "kept 0 of 0", 0])

    def test_cut(self):
        book = replay(FORK_ROWS + ["break n ah", "break n bc"])
        self.assertEqual(book.do("cut n ah"), "houses 4 lines 5")
        self.assertEqual(book.broken_lines("n"), ["bc"])
        self.assertEqual(raised(book.do, "cut n ah"), ("UnknownLine", "ah"))
        self.assertEqual(raised(book.do, "break n ah"), ("UnknownLine", "ah"))
        # A new line of that name is whole.
        book.do("line n ah a h")
        self.assertEqual(book.broken_lines("n"), ["bc"])

    def test_cut_in_a_built_net(self):
        book = replay(FORK_ROWS + ["line n ch c h", "build n 2"])
        self.assertEqual(book.log("n"), build(book.net("n"), 2)[1])
        old = book.log("n")
        for line in book.net("n").line_names:
            twin = book.twin()
            less = book.net("n") - [line]
            if strength(less) >= 2:
                kept = right_start(less, 2, old)
                self.assertEqual(twin.do(f"cut n {line}"), f"kept {kept} of 6")
                self.assertEqual(twin.log("n"), lead_log(less, 2, old)[0])
                self.assertEqual(twin.built("n"), 2)
            else:
                self.assertEqual(twin.do(f"cut n {line}"), " ".join(["lot"] + weakest_lot(less)))
                self.assertIsNone(twin.built("n"))
                self.assertEqual(twin.net("n"), less)

    def test_cut_that_leaves_too_few(self):
        book = replay(FORK_ROWS + ["build n 2", "break n cb", "break n ca"])
        self.assertEqual(book.do("cut n cb"), "lot a c")
        self.assertIsNone(book.built("n"))
        self.assertEqual(book.broken_lines("n"), ["ca"])
        self.assertEqual(book.do("cut n bc"), "houses 4 lines 4")
        self.assertEqual(book.do("build n 1"), "trees 1")

    def test_build(self):
        book = replay(FORK_ROWS + ["break n ah"])
        for count in range(3):
            self.assertEqual(book.do(f"build n {count}"), f"trees {count}")
            self.assertEqual(book.built("n"), count)
            grove, log, _ = build(fork(), count)
            self.assertEqual((book.grove("n"), book.log("n")), (grove, log))
            self.assertEqual(book.table("n"), table_of(fork(), grove))
        self.assertEqual(book.do("build n 3"), "lot a")
        self.assertIsNone(book.built("n"))
        self.assertEqual(book.broken_lines("n"), ["ah"])
        self.assertEqual(book.do("build n 4"), "lot a")
        bare = replay(["net n h", "house n b", "house n a"])
        self.assertEqual([bare.do("build n 1"), bare.do("build n 0"), bare.built("n")], ["lot a", "trees 0", 0])
        alone = replay(["net n h"])
        self.assertEqual([alone.do("build n 4"), alone.grove("n"), alone.log("n")], ["trees 4", [[], [], [], []], []])
        self.assertEqual(alone.table("n"), Table(4))

    def test_build_begins_anew(self):
        book = replay(FORK_ROWS + ["build n 1"])
        self.assertEqual(book.log("n"), build(fork(), 1)[1])
        book.do("build n 2")
        self.assertEqual(book.log("n"), build(fork(), 2)[1])

    def test_break_and_mend(self):
        book = replay(FORK_ROWS)
        self.assertEqual([book.do(f"break n {line}") for line in ("cb", "ah", "cb")],
                         ["broken cb", "broken ah cb", "broken ah cb"])
        self.assertEqual([book.do(f"mend n {line}") for line in ("bc", "cb", "cb", "ah")],
                         ["broken ah cb", "broken ah", "broken ah", "broken"])
        for kind in ("break", "mend"):
            for wrong in ("zz", "a", "h"):
                self.assertEqual(raised(book.do, f"{kind} n {wrong}"), ("UnknownLine", wrong))

    def test_send(self):
        book = replay(FORK_ROWS + ["build n 2"])
        self.assertEqual([book.do("send n c"), book.do("send n h")], ["home 2 0", "home 0 0"])
        book.do("break n ah")
        self.assertEqual(book.do("send n c"), "home 4 1")
        book.do("break n ac")
        self.assertEqual(book.do("send n c"), "stuck 1 1")
        self.assertEqual(raised(book.do, "send n z"), ("UnknownHouse", "z"))
        book.do("house n z")
        self.assertEqual(raised(book.do, "send n y"), ("UnknownHouse", "y"))
        self.assertEqual(raised(book.do, "send n z"), ("Unlike", "build"))
        self.assertEqual(raised(book.do, "send n h"), ("Unlike", "build"))
        self.assertEqual(raised(book.do, "send m y"), ("Unlike", "name"))

    def test_each(self):
        book = replay(FORK_ROWS + ["build n 2"])
        self.assertEqual(book.do("each n"), "home 3 of 3")
        self.assertEqual([book.do("break n ah"), book.do("each n")], ["broken ah", "home 3 of 3"])
        self.assertEqual([book.do("break n bh"), book.do("each n")], ["broken ah bh", "home 0 of 3"])
        self.assertEqual([book.do("mend n ah"), book.do("break n ca"), book.do("each n")],
                         ["broken bh", "broken bh ca", "home 1 of 3"])
        self.assertEqual([book.do("build n 0"), book.do("each n")], ["trees 0", "home 0 of 3"])
        self.assertEqual([book.do("build n 4"), raised(book.do, "each n")], ["lot a", ("Unlike", "build")])
        self.assertEqual(replay(["net n h", "build n 2", "each n"]).rows[-1][1], "home 0 of 0")

    def test_worst(self):
        book = replay(FORK_ROWS + ["build n 2", "break n ah", "break n bh"])
        # The broken lines do not matter.
        self.assertEqual([book.do("worst n 0"), book.do("worst n 1"), book.do("worst n 2"), book.do("worst n 3")],
                         ["holds", "holds", "stops a by ac ah", "stops a by ac ah"])
        book.do("build n 0")
        self.assertEqual(book.do("worst n 1"), "stops a by")
        self.assertEqual(replay(["net n h", "build n 0", "worst n 3"]).rows[-1][1], "holds")

    def test_worst_errors(self):
        book = replay(loops(20))
        self.assertEqual(raised(book.do, "worst n 2"), ("TooMany", "damages", 211, 200))
        self.assertEqual(raised(book.do, "worst n 1"), ("Unlike", "build"))
        self.assertEqual(raised(book.do, "worst m 2"), ("Unlike", "name"))
        book.do("build n 1")
        self.assertEqual(raised(book.do, "worst n 2"), ("TooMany", "damages", 211, 200))
        self.assertEqual(raised(book.do, "worst n 3"), ("TooMany", "damages", 1351, 200))
        self.assertEqual(book.do("worst n 1"), "holds")

    def test_names_that_are_not_filed(self):
        book = replay(EXAMPLE)
        for row in ["house m a", "line m x a h", "line m z y z", "cut m x", "cut m z", "build m 1", "build m 4",
                    "break m x", "break m z", "mend m z", "send m a", "send m z", "each m", "worst m 3", "house m h"]:
            self.assertEqual(raised(book.do, row), ("Unlike", "name"))

    def test_faults_of_a_row(self):
        book = replay(EXAMPLE)
        before = state(book)
        for row, place in [("", 1), ("undo", 1), ("net m", 6), ("build n 5", 9), ("worst n 4", 9), ("house m A", 9),
                           ("line n y a h h", 14), ("each n\neach n", 6), ("Each n", 1), ("send n  a", 8)]:
            self.assertEqual(raised(book.do, row), ("BadText", 1, place))
            self.assertEqual(state(book), before)

    def test_most_rows(self):
        book = replay(loops(30) + [f"break n l{k:02}" for k in range(29)])
        self.assertEqual(len(book.rows), 60)
        before = state(book)
        for row in ["each n", "each m", "net n h", "send n z", "house n h", "line n x h h", "worst n 3", "cut n zz"]:
            self.assertEqual(raised(book.do, row), ("TooMany", "rows", 61, 60))
        self.assertEqual(raised(book.do, "each"), ("BadText", 1, 5))
        self.assertEqual(raised(book.do, "build n 7"), ("BadText", 1, 9))
        self.assertEqual(state(book), before)
        book.undo()
        self.assertEqual(raised(book.do, "each n"), ("Unlike", "build"))
        self.assertEqual(book.do("build n 2"), "trees 2")
        self.assertEqual(raised(book.do, "build n 1"), ("TooMany", "rows", 61, 60))


class RandomTest(unittest.TestCase):
    def test_against_a_plain_book(self):
        errors = set()
        answers = set()
        kept = set()
        for seed in range(120):
            chance = random.Random(seed)
            book, shelf = Book(), Shelf()
            for row in ["net n h", "house n a", "house n b"] if seed % 2 else []:
                self.assertEqual(book.do(row), shelf.do(row))
            for _ in range(110 if seed % 10 == 0 else 60):
                row = some_row(chance, shelf)
                due = shelf.due(row)
                if due is not None:
                    before = state(book)
                    self.assertEqual(raised(book.do, row), due)
                    self.assertEqual(state(book), before)
                    errors.add(due[0] + (str(due[1]) if due[0] in ("TooMany", "Unlike") else ""))
                    continue
                answer = shelf.do(row)
                self.assertEqual(book.do(row), answer)
                answers.add((row.split()[0], answer.split()[0]))
                if answer.startswith("kept") and row.startswith("cut"):
                    kept.add(answer)
                net = shelf.net(row.split()[1])
                home, houses, lines, broken, count, log = shelf.nets[row.split()[1]]
                self.assertEqual(book.net(row.split()[1]), net)
                self.assertEqual(book.broken_lines(row.split()[1]), broken)
                self.assertEqual(book.built(row.split()[1]), count)
                if count is not None:
                    self.assertEqual(book.log(row.split()[1]), log)
            self.assertEqual(book.rows, shelf.rows)
            self.assertEqual(book.names, sorted(shelf.nets))
            self.check(book)
        self.assertEqual(errors, {"BadText", "Duplicate", "UnknownHouse", "UnknownLine", "Unlikename", "Unlikebuild",
                                  "TooManyrows", "TooManydamages"})
        self.assertEqual(answers, {
            ("net", "houses"), ("house", "houses"), ("line", "houses"), ("line", "kept"), ("cut", "houses"),
            ("cut", "kept"), ("cut", "lot"), ("build", "trees"), ("build", "lot"), ("break", "broken"),
            ("mend", "broken"), ("send", "home"), ("send", "stuck"), ("each", "home"), ("worst", "holds"),
            ("worst", "stops")})
        self.assertGreaterEqual(len(kept), 6)

    def check(self, book):
        """What the document says of every book."""
        self.assertIs(is_sound(book), True)
        rows = [row for row, _ in book.rows]
        other = replay(rows)
        self.assertEqual(state(other), state(book))
        self.assertTrue(other == book)
        self.assertIsNone(audit(book.rows))
        self.assertIsNone(first_unlike(book, other))
        for name in book.names:
            if book.built(name) is not None:
                net, count, log = book.net(name), book.built(name), book.log(name)
                self.assertIs(is_log(net, count, log), True)
                self.assertEqual(book.grove(name), grove_of_log(net, count, log))
                self.assertEqual(book.table(name), table_of(net, book.grove(name)))

    def test_undo_gives_back_what_was_there(self):
        for seed in range(40):
            chance = random.Random(seed)
            book, shelf = Book(), Shelf()
            states = [state(book)]
            for _ in range(40):
                row = some_row(chance, shelf)
                if shelf.due(row) is None:
                    shelf.do(row)
                    book.do(row)
                    states.append(state(book))
                    if chance.random() < 0.3:
                        self.assertEqual(book.undo(), row)
                        self.assertEqual(state(book), states[-2])
                        self.assertEqual(book.do(row), states[-1][0][-1][1])
                        self.assertEqual(state(book), states[-1])
            while len(states) > 1:
                last = states.pop()[0][-1]
                self.assertEqual(book.undo(), last[0])
                self.assertEqual(state(book), states[-1])
            self.assertEqual(raised(book.undo), ("Unlike", "rows"))
            self.assertEqual(state(book), ([], [], {}))


class UndoTest(unittest.TestCase):
    def test_the_error(self):
        book = Book()
        self.assertEqual(raised(book.undo), ("Unlike", "rows"))
        book.do("net n h")
        self.assertEqual(book.undo(), "net n h")
        self.assertEqual(raised(book.undo), ("Unlike", "rows"))
        self.assertEqual((book.names, book.rows), ([], []))

    def test_the_very_log_comes_back(self):
        # The log was led along, and building anew would give another one.
        rows = FORK_ROWS + ["line n ch c h", "build n 2", "cut n ca"]
        book = replay(rows)
        book.do("line n ca c a")
        led = book.log("n")
        self.assertNotEqual(led, build(book.net("n"), 2)[1])
        for row in ["build n 2", "build n 4", "cut n ah", "house n z", "break n ah", "build n 0"]:
            book.do(row)
            self.assertEqual(book.undo(), row)
            self.assertEqual((book.log("n"), book.built("n"), book.broken_lines("n")), (led, 2, []))
        self.assertEqual(len(book.rows), len(rows) + 1)

    def test_rows_that_change_nothing_are_kept_and_undone(self):
        book = replay(EXAMPLE)
        for row in ["send n a", "each n", "worst n 1"]:
            book.do(row)
        self.assertEqual([row for row, _ in book.rows[-3:]], ["send n a", "each n", "worst n 1"])
        self.assertEqual([book.undo(), book.undo(), book.undo()], ["worst n 1", "each n", "send n a"])
        self.assertEqual(book, replay(EXAMPLE))

    def test_a_refused_row_cannot_be_undone(self):
        book = replay(EXAMPLE)
        for row in ["house n a", "send n z", "each m", ""]:
            self.assertIsNotNone(raised(book.do, row))
        self.assertEqual(book.undo(), "build n 1")


class TwinTest(unittest.TestCase):
    def test_twins_stay_apart(self):
        book = replay(FORK_ROWS + ["build n 2", "break n ah"])
        twin = book.twin()
        self.assertIsInstance(twin, Book)
        self.assertIsNot(twin, book)
        self.assertEqual(state(twin), state(book))
        self.assertTrue(twin == book)
        before = state(book)
        for row in ["break n bh", "cut n ah", "net m h", "build n 1", "house n z"]:
            twin.do(row)
        self.assertEqual(state(book), before)
        after = state(twin)
        book.undo()
        book.undo()
        book.do("mend n bh")
        self.assertEqual(state(twin), after)
        for _ in range(6):
            twin.undo()
        self.assertEqual(state(twin), state(replay(FORK_ROWS + ["build n 2"])))
        while twin.rows:
            twin.undo()
        self.assertEqual(raised(twin.undo), ("Unlike", "rows"))
        self.assertEqual(state(book), state(replay(FORK_ROWS + ["mend n bh"])))

    def test_an_empty_twin(self):
        book = Book()
        twin = book.twin()
        twin.do("net n h")
        self.assertEqual((book.rows, book.names), ([], []))
        self.assertFalse(twin == book)

    def test_the_twin_has_the_very_log(self):
        book = replay(FORK_ROWS + ["line n ch c h", "build n 2", "cut n ca", "line n ca c a"])
        self.assertEqual(book.twin().log("n"), book.log("n"))
        self.assertNotEqual(book.log("n"), build(book.net("n"), 2)[1])


class ReadingTest(unittest.TestCase):
    def test_both_kinds_of_unlike(self):
        book = replay(["net n h", "house n a"])
        for call in (book.net, book.broken_lines, book.built, book.log, book.grove, book.table):
            for name in ("m", "", "h", "N"):
                self.assertEqual(raised(call, name), ("Unlike", "name"))
        for call in (book.log, book.grove, book.table):
            self.assertEqual(raised(call, "n"), ("Unlike", "build"))
        for call in (book.net, book.broken_lines, book.built):
            self.assertIsNone(raised(call, "n"))
        book.do("build n 0")
        self.assertEqual((book.built("n"), book.log("n"), book.grove("n"), book.table("n")), (0, [], [], Table(0)))

    def test_every_reading_is_new(self):
        book = replay(FORK_ROWS + ["build n 2", "break n ah"])
        before = copy.deepcopy(state(book))
        for _ in range(2):
            for told in (book.rows, book.names, book.broken_lines("n"), book.log("n"), book.grove("n"),
                         *book.grove("n"), book.table("n").entries, book.net("n").lines, book.net("n").houses):
                told.append("spoilt")
                told.reverse()
            self.assertEqual(state(book), before)
        grove = book.grove("n")
        self.assertEqual(len(set(id(tree) for tree in grove)), 2)
        self.assertEqual(book.do("send n c"), "home 4 1")

    def test_rows_and_iteration(self):
        book = replay(EXAMPLE)
        self.assertEqual(book.rows, list(zip(EXAMPLE, ANSWERS)))
        self.assertEqual(list(book), book.rows)
        self.assertEqual([(one, two) for one in book for two in book],
                         [(one, two) for one in book.rows for two in book.rows])
        self.assertEqual(list(Book()), [])

    def test_equal(self):
        book = replay(EXAMPLE)
        self.assertTrue(book == replay(EXAMPLE))
        self.assertTrue(Book() == Book())
        self.assertFalse(book == replay(EXAMPLE[:4]))
        self.assertFalse(book == replay(EXAMPLE[:4] + ["build n 0"]))
        self.assertFalse(book == Book())
        # The state is the same, but the rows are not.
        self.assertFalse(replay(["net n h", "net m h"]) == replay(["net m h", "net n h"]))
        self.assertFalse(replay(["net n h", "build n 0", "each n"]) == replay(["net n h", "build n 0"]))
        for other in (None, [], book.rows, EXAMPLE, 0, "", True, fork(), Table(0), Diary()):
            self.assertIs(book == other, False)
            self.assertIs(Book() == other, False)
        book.do("each n")
        book.undo()
        self.assertIs(book == replay(EXAMPLE), True)

    def test_books_in_equal_states_answer_equally(self):
        one = replay(FORK_ROWS + ["line n ch c h", "build n 2", "cut n ca"])
        two = replay(FORK_ROWS + ["line n ch c h"])
        for row in ["net m h", "build n 1"]:
            two.do(row)
            two.undo()
        two.do("build n 2")
        two.do("cut n ca")
        self.assertTrue(one == two)
        for row in ["line n ca c a", "each n", "worst n 2", "cut n ah", "send n c", "build n 2", "each n"]:
            self.assertEqual(raised(one.do, row), raised(two.do, row))
            self.assertEqual(state(one), state(two))


class ReplayTest(unittest.TestCase):
    def test_replay(self):
        rows = list(EXAMPLE)
        book = replay(rows)
        rows.append("spoilt")
        self.assertEqual([row for row, _ in book.rows], EXAMPLE)
        self.assertEqual(state(replay([])), state(Book()))
        self.assertEqual(state(replay(EXAMPLE)), state(replay(list(EXAMPLE))))
        self.assertIsNot(replay([]), replay([]))

    def test_errors(self):
        self.assertEqual(raised(replay, EXAMPLE + ["send n z", ""]), ("UnknownHouse", "z"))
        self.assertEqual(raised(replay, EXAMPLE + ["build n 7", "send n z"]), ("BadText", 1, 9))
        self.assertEqual(raised(replay, ["each n"]), ("Unlike", "name"))
        self.assertEqual(raised(replay, ["net n h"] * 2), ("Duplicate", "n"))
        self.assertEqual(raised(replay, ["net n h"] + ["build n 0"] * 60), ("TooMany", "rows", 61, 60))
        self.assertEqual(len(replay(["net n h"] + ["build n 0"] * 59).rows), 60)

    def test_audit(self):
        pairs = list(zip(EXAMPLE, ANSWERS))
        before = copy.deepcopy(pairs)
        self.assertIsNone(audit(pairs))
        self.assertIsNone(audit([]))
        for index in range(5):
            for wrong in [(EXAMPLE[index], ANSWERS[index] + " "), (EXAMPLE[index], ""), ("", ANSWERS[index]),
                          ("each m", ANSWERS[index]), ("send n z", "home 0 0"), ("net n h h", "houses 1 lines 0")]:
                self.assertEqual(audit(pairs[:index] + [wrong] + pairs[index + 1:]), index + 1)
        self.assertEqual(audit([("net n h", "houses 1 lines 1"), ("", "")]), 1)
        self.assertEqual(audit(pairs + [("house n a", "houses 3 lines 1")]), 6)
        # A row that gives another answer counts, also if a later row raises an error.
        self.assertEqual(audit(pairs[:3] + [("build n 2", "lot b"), ("", "")]), 4)
        many = [("net n h", "houses 1 lines 0")] + [("build n 0", "trees 0")] * 60
        self.assertEqual(audit(many), 61)
        self.assertIsNone(audit(many[:60]))
        self.assertEqual(pairs, before)
        self.assertEqual(audit(pairs), audit(list(pairs)))

    def test_first_unlike(self):
        book = replay(EXAMPLE)
        self.assertIsNone(first_unlike(book, book))
        self.assertIsNone(first_unlike(book, replay(EXAMPLE)))
        self.assertIsNone(first_unlike(Book(), Book()))
        for length in range(5):
            self.assertEqual(first_unlike(book, replay(EXAMPLE[:length])), length + 1)
            self.assertEqual(first_unlike(replay(EXAMPLE[:length]), book), length + 1)
        self.assertEqual(first_unlike(book, replay(EXAMPLE[:3] + ["build n 1"])), 4)
        self.assertEqual(first_unlike(book, replay(["net n x"])), 1)
        one = replay(["net n h", "house n a", "net m h", "build n 0", "each n"])
        two = replay(["net n h", "net m h", "house n a", "build n 0", "each n"])
        self.assertEqual(first_unlike(one, two), 2)
        three = replay(["net n h", "net m h", "house m a", "build m 0", "build n 0", "each n"])
        four = replay(["net n h", "net m h", "house n a", "build m 0", "build n 0", "each n"])
        self.assertEqual(first_unlike(three, four), 3)

    def test_another_answer_to_the_same_row(self):
        # Equal rows from the beginning have equal answers, so a book is told a wrong one here.
        class Told(Book):
            @property
            def rows(self):
                return [(row, answer.replace("trees 1", "trees 2")) for row, answer in super().rows]
        told = Told()
        for row in EXAMPLE:
            told.do(row)
        self.assertEqual(first_unlike(replay(EXAMPLE), told), 5)
        self.assertEqual(first_unlike(told, replay(EXAMPLE)), 5)


class SoundTest(unittest.TestCase):
    def test_books(self):
        self.assertIs(is_sound(Book()), True)
        for length in range(len(EXAMPLE) + 1):
            self.assertIs(is_sound(replay(EXAMPLE[:length])), True)
        book = replay(FORK_ROWS + ["build n 2", "break n ah", "cut n cb", "net m h", "build m 3"])
        self.assertIs(is_sound(book), True)
        self.assertIs(is_sound(book.twin()), True)

    def test_every_kind(self):
        for value in KINDS:
            before = copy.deepcopy(value)
            self.assertIs(is_sound(value), False, repr(value))
            self.assertEqual(value, before)
        for book in (Book(), replay(EXAMPLE)):
            self.assertIs(is_sound([book]), False)
            self.assertIs(is_sound([book, book]), False)
            self.assertIs(is_sound([[book]]), False)
            self.assertIs(is_sound(book.rows), False)

    def test_books_that_are_not_sound(self):
        # No call of the document makes such a book, so one is told wrong things here.
        for log in ([], [(0, "x"), (0, "x")], [(0, "zz")], [(1, "x")]):
            class Wrong(Book):
                def log(self, name):
                    return log
            book = Wrong()
            for row in EXAMPLE:
                book.do(row)
            self.assertIs(is_sound(book), False, log)

        class Broken(Book):
            def broken_lines(self, name):
                return ["zz"]
        book = Broken()
        self.assertIs(is_sound(book), True)
        book.do("net n h")
        self.assertIs(is_sound(book), False)


class TogetherTest(unittest.TestCase):
    def test_a_book_by_the_other_modules(self):
        book = replay(FORK_ROWS + ["build n 2", "break n ah"])
        net, table = book.net("n"), book.table("n")
        for house in net.houses:
            run = run_letter(net, table, house, broken=book.broken_lines("n"))
            self.assertEqual(book.do(f"send n {house}"), f"{run.end} {run.steps} {run.turns}")
        for most in range(4):
            stop = first_stop(net, table, most)
            self.assertEqual(book.do(f"worst n {most}"),
                             "holds" if stop is None else " ".join(["stops", stop[1], "by"] + stop[0]))


if __name__ == "__main__":
    unittest.main()
