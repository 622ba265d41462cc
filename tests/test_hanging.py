import itertools
import random
import unittest

from markshome.builder import build
from markshome.flows import strength
from markshome.hanging import hang, hang_grove, hang_tables, restrict
from markshome.marks import table_fault, table_of
from markshome.nets import Net
from markshome.runs import run_letter
from markshome.tables import Table
from markshome.trees import is_grove
from samples import (alone, fork, mixed, plain_strength, raised, random_net, random_table, remade, strong_net,
                     unharmed)

TREES = [["ah", "bc", "ca"], ["ac", "bh", "cb"]]
FIVE = [["zz"]] * 5


def part_names(net):
    """An equal net but for its names, none of which the other nets here have."""
    def house(name):
        return "p" + name[-1]
    return Net(house(net.home), [house(name) for name in net.others],
               [("q" + name[-3:], house(tail), house(head)) for name, tail, head in net.lines])


def small_part():
    """A part with a loop at its home, lines out of it, and lines with equal ends."""
    return Net("p", ["x", "y"], [("xp", "x", "p"), ("xp2", "x", "p"), ("yx", "y", "x"), ("yp", "y", "p"),
                                 ("pp", "p", "p"), ("px", "p", "x")])


def pairs(seeds):
    """Nets with parts that can be hung at any of their houses."""
    found = []
    for seed in seeds:
        net = random_net(seed, 3, 8) if seed % 2 else strong_net(seed, 1 + seed % 3, 1 + seed % 3, 1)
        other = random_net(seed + 50, 3, 8) if seed % 3 else strong_net(seed + 50, 1 + seed % 3, 1 + seed % 3, 1)
        found.append((net, part_names(other)))
    return found


def wide(many, sign):
    """A net of so many houses with home, without lines."""
    return Net("h" + sign, [f"n{sign}{k}" for k in range(many - 1)])


def loops(many, sign, first=0):
    """Home alone with so many loops."""
    return Net("h" + sign, [], [(f"l{sign}{k:02}", "h" + sign, "h" + sign) for k in range(first, first + many)])


class HangTest(unittest.TestCase):
    def test_small(self):
        self.assertEqual(hang(fork(), "c", small_part()), Net("h", ["a", "b", "c", "x", "y"], fork().lines + [
            ("xp", "x", "c"), ("xp2", "x", "c"), ("yx", "y", "x"), ("yp", "y", "c"), ("pp", "c", "c"),
            ("px", "c", "x")]))

    def test_at_home(self):
        self.assertEqual(hang(fork(), "h", small_part()), Net("h", ["a", "b", "c", "x", "y"], fork().lines + [
            ("xp", "x", "h"), ("xp2", "x", "h"), ("yx", "y", "x"), ("yp", "y", "h"), ("pp", "h", "h"),
            ("px", "h", "x")]))

    def test_home_alone(self):
        self.assertEqual(hang(alone(), "h", small_part()).houses, ["h", "x", "y"])
        self.assertEqual(hang(fork(), "b", Net("p")), fork())
        self.assertEqual(hang(fork(), "b", alone()), Net("h", ["a", "b", "c"], fork().lines + [
            ("l1", "b", "b"), ("l2", "b", "b")]))
        self.assertEqual(hang(Net("h"), "h", Net("p")), Net("h"))

    def test_the_name_of_the_parts_home(self):
        # The name disappears, so it may be that of any house of the net.
        for name in ("h", "a", "b"):
            part = Net(name, ["x"], [("x", "x", name), ("y", name, "x")])
            self.assertEqual(hang(fork(), "b", part), Net("h", ["a", "b", "c", "x"], fork().lines + [
                ("x", "x", "b"), ("y", "b", "x")]))

    def test_by_definition(self):
        for net, part in pairs(range(40)):
            for house in net.houses:
                rows = [(name, house if tail == part.home else tail, house if head == part.home else head)
                        for name, tail, head in part.lines]
                told = Net(net.home, net.others + part.others, net.lines + rows)
                self.assertEqual(hang(net, house, part), told)

    def test_too_many(self):
        self.assertEqual(len(hang(wide(6, "a"), "ha", wide(7, "b")).houses), 12)
        self.assertEqual(raised(hang, wide(7, "a"), "zz", wide(7, "b")), ("TooMany", "houses", 13, 12))
        self.assertEqual(raised(hang, wide(12, "a"), "zz", wide(12, "a")), ("TooMany", "houses", 23, 12))
        self.assertIsNone(raised(hang, wide(12, "a"), "ha", wide(1, "b")))
        self.assertEqual(raised(hang, wide(12, "a"), "ha", wide(2, "b")), ("TooMany", "houses", 13, 12))
        self.assertEqual(len(hang(loops(20, "a"), "ha", loops(10, "b")).lines), 30)
        self.assertEqual(raised(hang, loops(20, "a"), "zz", loops(11, "b")), ("TooMany", "lines", 31, 30))
        # Equal names count twice.
        self.assertEqual(raised(hang, loops(30, "a"), "zz", loops(30, "a")), ("TooMany", "lines", 60, 30))
        both = Net("h", [f"n{k}" for k in range(9)], [(f"l{k}", "h", "h") for k in range(20)])
        self.assertEqual(raised(hang, both, "zz", both), ("TooMany", "houses", 19, 12))

    def test_duplicate(self):
        part = Net("p", ["y", "c", "b", "h"], [("bh", "p", "p"), ("ac", "p", "p")])
        self.assertEqual(raised(hang, fork(), "zz", part), ("Duplicate", "b"))
        self.assertEqual(raised(hang, fork(), "zz", Net("p", ["x", "h"])), ("Duplicate", "h"))
        self.assertEqual(raised(hang, fork(), "zz", Net("p", ["y"], part.lines)), ("Duplicate", "ac"))
        self.assertEqual(raised(hang, fork(), "a", Net("p", ["y"], [("z", "p", "p"), ("cb", "p", "p")])),
                         ("Duplicate", "cb"))
        self.assertEqual(raised(hang, fork(), "a", fork()), ("Duplicate", "a"))
        # A house and a line may have the same name.
        self.assertIsNone(raised(hang, fork(), "a", Net("p", ["ah"], [("a", "ah", "p")])))

    def test_unknown_house(self):
        for wrong in ("zz", "", "A", "p", "x", "ah", "abcdefghi"):
            self.assertEqual(raised(hang, fork(), wrong, small_part()), ("UnknownHouse", wrong))
            self.assertEqual(raised(hang, fork(), wrong, Net("p")), ("UnknownHouse", wrong))
        self.assertEqual(raised(hang, alone(), "p", Net("p")), ("UnknownHouse", "p"))

    def test_the_strength(self):
        seen = set()
        for net, part in pairs(range(60)):
            for house in net.houses:
                hung = hang(net, house, part)
                both = [strength(one) for one in (net, part) if strength(one) is not None]
                self.assertEqual(strength(hung), min(both, default=None))
                self.assertEqual(plain_strength(hung), min(both, default=None))
                seen.add((strength(net), strength(part)))
        self.assertLessEqual({(None, 0), (0, None), (1, 2), (2, 1), (1, 1)}, seen)
        # A part without its house in between: the least one counts, whichever it is.
        two = Net("p", ["x"], [("x1", "x", "p"), ("x2", "x", "p")])
        self.assertEqual([strength(hang(fork(), house, two)) for house in "abch"], [2, 2, 2, 2])
        self.assertEqual([strength(hang(fork(), house, two - ["x1"])) for house in "abch"], [1, 1, 1, 1])


class HangGroveTest(unittest.TestCase):
    def test_small(self):
        self.assertEqual(hang_grove(fork(), TREES, small_part(), [["xp", "yx"], ["xp2", "yp"]]),
                         [["ah", "bc", "ca", "xp", "yx"], ["ac", "bh", "cb", "xp2", "yp"]])
        mixed_up = Net("p", ["y"], [("az", "y", "p"), ("bb", "y", "p")])
        self.assertEqual(hang_grove(fork(), TREES, mixed_up, [["bb"], ["az"]]),
                         [["ah", "bb", "bc", "ca"], ["ac", "az", "bh", "cb"]])
        self.assertEqual(hang_grove(fork(), [], small_part(), []), [])
        self.assertEqual(hang_grove(Net("h"), [[], []], Net("h"), [[], []]), [[], []])
        self.assertEqual(hang_grove(fork(), TREES, Net("p"), [[], []]), TREES)
        # The names of houses are not compared.
        self.assertEqual(hang_grove(fork(), TREES[:1], Net("h", ["a"], [("x", "a", "h")]), [["x"]]),
                         [["ah", "bc", "ca", "x"]])
        # Neither are limits of a net.
        large = Net("p", [f"n{k}" for k in range(11)], [(f"l{k}", f"n{k % 11}", "p") for k in range(30)])
        tree = sorted(f"l{k}" for k in range(11))
        self.assertEqual(hang_grove(fork(), TREES[:1], large, [tree]), [sorted(TREES[0] + tree)])

    def test_it_is_a_grove_of_the_hung_net(self):
        many = set()
        for net, part in pairs(range(60)):
            count = min([4] + [strength(one) for one in (net, part) if strength(one) is not None])
            grove, part_grove = build(net, count)[0], build(part, count)[0]
            hung_grove = hang_grove(net, grove, part, part_grove)
            self.assertEqual(hung_grove, [sorted(one + two) for one, two in zip(grove, part_grove)])
            self.assertEqual(len(hung_grove), count)
            for house in net.houses:
                self.assertIs(is_grove(hang(net, house, part), hung_grove), True)
            self.assertEqual(restrict(net, hung_grove), grove)
            self.assertEqual(restrict(part, hung_grove), part_grove)
            many.add(count)
        self.assertLessEqual({0, 1, 2}, many)

    def test_errors(self):
        same = Net("p", ["y"], [("yp", "y", "p"), ("bh", "y", "p"), ("ac", "y", "p")])
        part = small_part()
        bad, good = [["xp", "yx"], ["xp2", "yx"]], [["xp", "yx"]]
        self.assertEqual(raised(hang_grove, fork(), FIVE, same, FIVE + [[]]), ("TooMany", "trees", 5, 4))
        self.assertEqual(raised(hang_grove, fork(), [[]], same, FIVE + [[]]), ("TooMany", "trees", 6, 4))
        self.assertEqual(raised(hang_grove, fork(), FIVE[:4], same, FIVE[:3]), ("Duplicate", "ac"))
        self.assertEqual(raised(hang_grove, fork(), [], same, []), ("Duplicate", "ac"))
        self.assertEqual(raised(hang_grove, fork(), [TREES[0], TREES[0]], part, FIVE[:4]), ("BadTree", 1))
        self.assertEqual(raised(hang_grove, fork(), TREES[:1], part, bad), ("BadTree", 1))
        self.assertEqual(raised(hang_grove, fork(), [["zz"]], part, bad), ("BadTree", 0))
        self.assertEqual(raised(hang_grove, fork(), TREES, part, good), ("Unlike", "count"))
        self.assertEqual(raised(hang_grove, fork(), TREES[:1], part, [["xp", "yx"], ["xp2", "yp"]]),
                         ("Unlike", "count"))
        self.assertEqual(raised(hang_grove, fork(), [], part, good), ("Unlike", "count"))
        self.assertIsNone(raised(hang_grove, fork(), TREES[:1], part, good))
        # The trees must be those of their own net.
        self.assertEqual(raised(hang_grove, fork(), good, part, TREES[:1]), ("BadTree", 0))


class RestrictTest(unittest.TestCase):
    def test_any_lists(self):
        self.assertEqual(restrict(fork(), [["zz", "bh", "ah", "bh"], [], ["", "A b", "h"], ["cb", "a", "ca"]]),
                         [["ah", "bh"], [], [], ["ca", "cb"]])
        self.assertEqual(restrict(fork(), []), [])
        self.assertEqual(restrict(fork(), TREES), TREES)
        self.assertEqual(restrict(Net("h"), [["ah"], []]), [[], []])
        self.assertEqual(restrict(alone(), [["l2", "l1", "l2"], ["l1"]]), [["l1", "l2"], ["l1"]])

    def test_errors(self):
        self.assertEqual(raised(restrict, fork(), FIVE), ("TooMany", "trees", 5, 4))
        self.assertEqual(raised(restrict, fork(), [[]] * 400), ("TooMany", "trees", 400, 4))
        self.assertIsNone(raised(restrict, fork(), FIVE[:4]))


class HangTablesTest(unittest.TestCase):
    def test_small(self):
        first = Table(2, [("a", 0, "ah", 1), ("b", 1, "bh", None)])
        second = Table(2, [("a", 1, "zz", 0), ("x", 0, "xp", None)])
        self.assertEqual(hang_tables(first, second), Table(2, [("a", 0, "ah", 1), ("a", 1, "zz", 0),
                                                               ("b", 1, "bh", None), ("x", 0, "xp", None)]))
        self.assertEqual(hang_tables(Table(3), Table(3)), Table(3))
        self.assertEqual(hang_tables(first, Table(2)), first)
        self.assertEqual(hang_tables(Table(2), first), first)

    def test_errors(self):
        rows = [(f"a{k}", 0, "x", None) for k in range(30)]
        first = Table(1, rows)
        self.assertEqual(raised(hang_tables, first, Table(2, rows[:19])), ("TooMany", "entries", 49, 48))
        self.assertEqual(raised(hang_tables, first, first), ("TooMany", "entries", 60, 48))
        more = [(f"b{k}", 0, "x", None) for k in range(18)]
        self.assertEqual(len(hang_tables(first, Table(1, more)).entries), 48)
        self.assertEqual(raised(hang_tables, first, Table(2, more)), ("Unlike", "marks"))
        self.assertEqual(raised(hang_tables, first, Table(1, more[:16] + [("a7", 0, "y", 0), ("a12", 0, "x", None)])),
                         ("BadTable", "a12", 0))
        self.assertEqual(raised(hang_tables, first, Table(2, [("b", 0, "x", 1), ("a3", 1, "x", 1), ("a3", 0, "x", 1)])),
                         ("BadTable", "a3", 0))
        self.assertEqual(raised(hang_tables, first, Table(2, [("a3", 1, "x", 1)])), ("Unlike", "marks"))
        self.assertEqual(raised(hang_tables, Table(0), Table(1)), ("Unlike", "marks"))
        self.assertEqual(raised(hang_tables, Table(4), Table(3)), ("Unlike", "marks"))

    def test_the_table_of_the_hung_grove(self):
        for net, part in pairs(range(40)):
            count = min([4] + [strength(one) for one in (net, part) if strength(one) is not None])
            grove, part_grove = build(net, count)[0], build(part, count)[0]
            table = hang_tables(table_of(net, grove), table_of(part, part_grove))
            for house in net.houses:
                self.assertEqual(table, table_of(hang(net, house, part), hang_grove(net, grove, part, part_grove)))


def hung_run(net, table, house, part, part_table, start, mark, broken):
    """The paper of a run in the hung net, put together of the runs in the part and in the net."""
    inner = [line for line in broken if line in net.line_names]
    outer = [line for line in broken if line in part.line_names]
    if start in net.houses:
        return run_letter(net, table, start, broken=inner, mark=mark).paper
    first = run_letter(part, part_table, start, broken=outer, mark=mark)
    moves = [(kind, line, house if at == part.home else at, after) for kind, line, at, after in first.moves]
    if first.end != "home":
        return (start, mark, first.end, moves)
    second = run_letter(net, table, house, broken=inner, mark=first.last[1])
    return (start, mark, second.end, moves + second.moves)


class HungRunsTest(unittest.TestCase):
    def same_marks(self, net, part, seed):
        """Tables of both nets with equal numbers of marks, by chance or of groves."""
        if seed % 2:
            count = min([4] + [strength(one) for one in (net, part) if strength(one) is not None])
            return table_of(net, build(net, count)[0]), table_of(part, build(part, count)[0])
        first, second = random_table(net, seed), random_table(part, seed + 1)
        marks = max(first.marks, second.marks)
        return Table(marks, first.entries), Table(marks, second.entries)

    def test_runs_through_both_nets(self):
        seen = set()
        for seed, (net, part) in enumerate(pairs(range(60))):
            chance = random.Random(seed)
            table, part_table = self.same_marks(net, part, seed)
            both = hang_tables(table, part_table)
            for house in net.houses:
                hung = hang(net, house, part)
                self.assertIsNone(table_fault(hung, both))
                for _ in range(6):
                    broken = chance.sample(hung.line_names, min(len(hung.line_names), chance.randint(0, 4)))
                    for start, mark in itertools.product(hung.houses, range(3)):
                        run = run_letter(hung, both, start, broken=broken, mark=mark)
                        told = hung_run(net, table, house, part, part_table, start, mark, broken)
                        self.assertEqual(run.paper, told)
                        seen.add((start in part.houses, run.end, house == net.home, run.turns > 1))
        self.assertLessEqual({(True, end, where, turned) for end in ("home", "stuck") for where in (True, False)
                              for turned in (True, False)}, seen)
        self.assertLessEqual({(True, "round", True, False), (True, "round", False, False)}, seen)

    def test_a_mark_is_carried_over(self):
        part = Net("p", ["x"], [("x1", "x", "p"), ("x2", "x", "p")])
        table = table_of(fork(), TREES)
        part_table = table_of(part, [["x1"], ["x2"]])
        run = run_letter(hang(fork(), "c", part), hang_tables(table, part_table), "x", broken=["x1", "ah"])
        self.assertEqual(run.moves, [("turn", "x1", "x", 1), ("pass", "x2", "c", 1), ("pass", "cb", "b", 1),
                                     ("pass", "bh", "h", 1)])
        self.assertEqual(run.end, "home")


class FreshTest(unittest.TestCase):
    def test_arguments_and_results(self):
        for seed, (net, part) in enumerate(pairs(range(30))):
            for house in net.houses:
                self.assertEqual(unharmed(self, hang, net, house, part), hang(remade(net), house, remade(part)))
            count = min([4] + [strength(one) for one in (net, part) if strength(one) is not None])
            grove, part_grove = build(net, count)[0], build(part, count)[0]
            result = unharmed(self, hang_grove, net, grove, part, part_grove)
            self.assertEqual(result, hang_grove(remade(net), grove, remade(part), part_grove))
            lists = (grove + part_grove)[:4]
            self.assertEqual(unharmed(self, restrict, net, lists), restrict(remade(net), lists))
            table, part_table = random_table(net, seed), random_table(part, seed)
            if table.marks == part_table.marks:
                told = hang_tables(Table(table.marks, table.entries[::-1]), part_table)
                self.assertEqual(unharmed(self, hang_tables, table, part_table), told)
        self.assertEqual(unharmed(self, restrict, mixed(), [["aa", "aa", "zz"], ["a1"]]), [["aa"], ["a1"]])


if __name__ == "__main__":
    unittest.main()
