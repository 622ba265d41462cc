import random
import unittest

from markshome.builder import build
from markshome.loads import busiest, detour, loads, tree_loads, worst_detour
from markshome.marks import table_of
from markshome.nets import Net
from markshome.tables import Table
from samples import (alone, chain, fork, mixed, plain_damages, plain_run, plain_strength, plain_trees, raised,
                     random_net, random_table, remade, strong_net, unharmed)

WRONG = Table(2, [("a", 1, "bh", None)])
TREES = [["ah", "bc", "ca"], ["ac", "bh", "cb"]]


def made_cases():
    """Nets with the table of a grove, or with a table by chance."""
    found = []
    for seed in range(50):
        net = random_net(seed, 4, 9) if seed % 2 else strong_net(seed, 1 + seed % 4, 1 + seed % 3, 1)
        count = min(4, plain_strength(net) or 0)
        table = random_table(net, seed) if seed % 3 == 0 else table_of(net, build(net, count)[0])
        found.append((net, table))
    return found


CASES = made_cases()


def plain_steps(net, table, house, broken):
    """The number of lines that a letter passes on its way home, or None if it does not come home."""
    _, _, end, moves = plain_run(net, table, house, 0, broken)
    return sum(move[0] == "pass" for move in moves) if end == "home" else None


def plain_detour(net, table, house, broken):
    """The detour, as the definition says."""
    steps, calm = plain_steps(net, table, house, broken), plain_steps(net, table, house, [])
    return None if steps is None or calm is None else steps - calm


def plain_loads(net, table, starts, broken):
    """The loads, move by move."""
    number = {line: 0 for line in net.line_names}
    for start in starts:
        for kind, line, _, _ in plain_run(net, table, start, 0, broken)[3]:
            number[line] = number[line] + 1 if kind == "pass" else number.get(line)
    number.pop(None, None)
    return sorted(number.items())


def backwards():
    """A net and a table whose first mark goes a long way round, and whose second one leads straight home."""
    net = Net("h", ["a", "b", "c"], [("ab", "a", "b"), ("bc", "b", "c"), ("ch", "c", "h"), ("ah", "a", "h"),
                                     ("bh", "b", "h"), ("cc", "c", "c")])
    table = Table(2, [("a", 0, "ab", 1), ("b", 0, "bc", 1), ("c", 0, "ch", 1), ("a", 1, "ah", None),
                      ("b", 1, "bh", None), ("c", 1, "cc", 1)])
    return net, table


class DetourTest(unittest.TestCase):
    def test_fork(self):
        table = table_of(fork(), TREES)
        self.assertEqual(detour(fork(), table, "c"), 0)
        self.assertEqual(detour(fork(), table, "c", broken=["ah"]), 2)
        self.assertEqual(detour(fork(), table, "b", broken=("bc",)), -2)
        self.assertEqual(detour(fork(), table, "a", broken=["ah", "ah"]), 2)
        self.assertIsNone(detour(fork(), table, "a", broken=["ah", "ac"]))

    def test_home(self):
        for broken in ([], ["ah", "bh"], fork().line_names):
            self.assertEqual(detour(fork(), table_of(fork(), TREES), "h", broken=broken), 0)
            self.assertEqual(detour(fork(), Table(0), "h", broken=broken), 0)
        self.assertEqual(detour(alone(), Table(4), "h", broken=["l1"]), 0)

    def test_a_run_that_does_not_come_home(self):
        # With nothing broken the letter goes round, with a broken line it comes home.
        table = Table(2, [("a", 0, "ac", 1), ("a", 1, "ah", None), ("c", 0, "ca", None)])
        self.assertIsNone(detour(fork(), table, "a", broken=["ac"]))
        self.assertIsNone(detour(fork(), table, "a"))
        self.assertIsNone(detour(fork(), table, "b"))

    def test_a_line_off_the_way_changes_nothing(self):
        net, table = backwards()
        self.assertEqual(detour(net, table, "a", broken=["ah", "cc"]), 0)
        self.assertEqual(detour(net, table, "a", broken=["ab"]), -2)
        self.assertEqual(detour(net, table, "a", broken=["bc"]), -1)

    def test_against_plain_runs(self):
        seen = set()
        for net, table in CASES:
            for damage in plain_damages(net, 2):
                for house in net.houses:
                    told = plain_detour(net, table, house, damage)
                    self.assertEqual(detour(net, table, house, broken=damage[::-1]), told)
                    seen.add(told)
        self.assertLessEqual({None, -2, -1, 0, 1, 2, 3}, seen)

    def test_errors(self):
        self.assertEqual(raised(detour, fork(), WRONG, "zz", broken=["y"]), ("UnknownHouse", "zz"))
        self.assertEqual(raised(detour, fork(), WRONG, "a", broken=["ah", "y", "z"]), ("UnknownLine", "y"))
        self.assertEqual(raised(detour, fork(), WRONG, "a", broken=["ah"]), ("BadTable", "a", 1))
        self.assertEqual(raised(detour, fork(), WRONG, "h"), ("BadTable", "a", 1))
        self.assertEqual(raised(detour, alone(), WRONG, "h"), ("BadTable", "a", 1))


class WorstDetourTest(unittest.TestCase):
    def test_fork(self):
        table = table_of(fork(), TREES)
        self.assertEqual(worst_detour(fork(), table, 0), (0, [], "a"))
        self.assertEqual(worst_detour(fork(), table, 1), (2, ["ah"], "a"))

    def test_against_all_runs(self):
        seen = set()
        for net, table in CASES:
            for most in range(3):
                told = None
                for damage in plain_damages(net, most):
                    for house in net.others:
                        longer = plain_detour(net, table, house, damage)
                        if longer is not None and (told is None or longer > told[0]):
                            told = (longer, damage, house)
                self.assertEqual(worst_detour(net, table, most), told)
                seen.add(told if told is None else (told[0], len(told[1])))
                if told is not None:
                    self.assertGreaterEqual(told[0], 0)
        self.assertLessEqual({None, (0, 0), (1, 1), (2, 1), (2, 2)}, seen)

    def test_never_negative(self):
        net, table = backwards()
        self.assertEqual(worst_detour(net, table, 1), (0, [], "a"))
        # The letter from b gets home, the one from a goes round with nothing broken.
        loose = Table(2, [("a", 0, "ac", 1), ("a", 1, "ah", None), ("c", 0, "ca", 0), ("b", 0, "bh", None)])
        self.assertEqual(worst_detour(fork(), loose, 1), (0, [], "b"))

    def test_none(self):
        self.assertIsNone(worst_detour(fork(), Table(0), 1))
        self.assertIsNone(worst_detour(alone(), Table(3), 30))
        self.assertIsNone(worst_detour(Net("h"), Table(0), 0))

    def test_errors(self):
        loops = Net("h", [], [(f"l{k:02}", "h", "h") for k in range(20)])
        for most in (-1, 31, 10 ** 59, -10 ** 59):
            self.assertEqual(raised(worst_detour, loops, WRONG, most), ("OutOfRange", "most", most))
        self.assertEqual(raised(worst_detour, loops, WRONG, 2), ("TooMany", "damages", 211, 200))
        self.assertEqual(raised(worst_detour, loops, WRONG, 30), ("TooMany", "damages", 2 ** 20, 200))
        self.assertEqual(raised(worst_detour, loops, WRONG, 1), ("BadTable", "a", 1))
        self.assertIsNone(raised(worst_detour, loops, Table(0), 1))
        self.assertEqual(raised(worst_detour, fork(), WRONG, 30), ("BadTable", "a", 1))


class LoadsTest(unittest.TestCase):
    def test_fork(self):
        table = table_of(fork(), TREES)
        told = loads(fork(), table, ["c", "a", "c", "h"])
        self.assertEqual(told, [("ac", 0), ("ah", 3), ("bc", 0), ("bh", 0), ("ca", 2), ("cb", 0)])
        told = loads(fork(), table, ["c", "a", "c"], broken=["ah"])
        self.assertEqual(told, [("ac", 3), ("ah", 0), ("bc", 0), ("bh", 3), ("ca", 2), ("cb", 3)])
        self.assertEqual(loads(fork(), table, []), [(line, 0) for line in fork().line_names])
        self.assertEqual(loads(fork(), table, ["h"] * 400), [(line, 0) for line in fork().line_names])
        self.assertEqual(loads(fork(), table, ["b"] * 400)[2], ("bc", 400))

    def test_runs_that_do_not_come_home(self):
        table = Table(1, [("a", 0, "ac", None), ("c", 0, "ca", None), ("b", 0, "bc", None)])
        told = dict(loads(fork(), table, ["b", "a"]))
        self.assertEqual(told, {"ac": 2, "ah": 0, "bc": 1, "bh": 0, "ca": 2, "cb": 0})
        told = dict(loads(fork(), table, ["b", "a"], broken=["ca"]))
        self.assertEqual(told, {"ac": 1, "ah": 0, "bc": 1, "bh": 0, "ca": 0, "cb": 0})

    def test_a_line_passed_twice_by_one_letter(self):
        # The letter goes from a to b with mark 0, back with mark 1, and by the same line again.
        net = Net("h", ["a", "b"], [("ab", "a", "b"), ("b1", "b", "h"), ("ba", "b", "a"), ("ah", "a", "h")])
        table = Table(3, [("a", 0, "ab", None), ("b", 0, "b1", 1), ("b", 1, "ba", 2), ("a", 1, "ab", 2),
                          ("b", 2, "b1", None)])
        self.assertEqual(loads(net, table, ["a"], broken=["b1"]), [("ab", 2), ("ah", 0), ("b1", 0), ("ba", 1)])

    def test_against_plain_runs(self):
        chance = random.Random(1)
        for net, table in CASES:
            for damage in plain_damages(net, 1):
                starts = [chance.choice(net.houses) for _ in range(chance.randint(0, 6))]
                self.assertEqual(loads(net, table, starts, broken=damage), plain_loads(net, table, starts, damage))

    def test_no_lines(self):
        self.assertEqual(loads(Net("h", ["a"]), Table(2), ["a", "h"]), [])
        self.assertEqual(loads(alone(), Table(2), ["h"]), [("l1", 0), ("l2", 0)])

    def test_errors(self):
        for call in (loads, busiest):
            self.assertEqual(raised(call, fork(), WRONG, ["a", "y", "z"], broken=["x"]), ("UnknownHouse", "y"))
            self.assertEqual(raised(call, fork(), WRONG, ["a"], broken=["ah", "x", "y"]), ("UnknownLine", "x"))
            self.assertEqual(raised(call, fork(), WRONG, ["a"], broken=["ah"]), ("BadTable", "a", 1))
            self.assertEqual(raised(call, fork(), WRONG, []), ("BadTable", "a", 1))
            self.assertEqual(raised(call, alone(), Table(0), ["l1"]), ("UnknownHouse", "l1"))


class BusiestTest(unittest.TestCase):
    def test_fork(self):
        table = table_of(fork(), TREES)
        self.assertEqual(busiest(fork(), table, ["c", "a", "c"]), ("ah", 3))
        self.assertEqual(busiest(fork(), table, ["c", "a", "c"], broken=["ah"]), ("ac", 3))
        self.assertEqual(busiest(fork(), table, ["c"], broken=["ca"]), ("bh", 1))
        self.assertEqual(busiest(fork(), table, ["c"]), ("ah", 1))
        self.assertEqual(busiest(fork(), table, []), ("ac", 0))
        self.assertEqual(busiest(fork(), table, ["h"]), ("ac", 0))

    def test_against_the_loads(self):
        chance = random.Random(2)
        for net, table in CASES:
            starts = [chance.choice(net.houses) for _ in range(5)]
            rows = plain_loads(net, table, starts, net.line_names[:1])
            told = busiest(net, table, starts, broken=net.line_names[:1])
            self.assertEqual(told, min(rows, key=lambda row: (-row[1], row[0]), default=None))

    def test_no_lines(self):
        self.assertIsNone(busiest(Net("h", ["a"]), Table(2), ["a", "h"]))
        self.assertIsNone(busiest(Net("h"), Table(0), []))
        self.assertEqual(busiest(alone(), Table(0), ["h"]), ("l1", 0))


class TreeLoadsTest(unittest.TestCase):
    def test_fork(self):
        self.assertEqual(tree_loads(fork(), TREES[0], ["b", "c", "b", "h"]),
                         [("ac", 0), ("ah", 3), ("bc", 2), ("bh", 0), ("ca", 3), ("cb", 0)])
        self.assertEqual(tree_loads(fork(), TREES[0], []), [(line, 0) for line in fork().line_names])
        self.assertEqual(tree_loads(alone(), [], ["h", "h"]), [("l1", 0), ("l2", 0)])
        self.assertEqual(tree_loads(Net("h"), [], ["h"]), [])

    def test_against_walks_along_the_tree(self):
        chance = random.Random(3)
        many = 0
        for seed in range(60):
            net = random_net(seed, 4, 9)
            for tree in plain_trees(net)[:6]:
                starts = [chance.choice(net.houses) for _ in range(6)]
                ahead = {net.tail(line): line for line in tree}
                number = {line: 0 for line in net.line_names}
                for house in starts:
                    while house != net.home:
                        number[ahead[house]] += 1
                        house = net.head(ahead[house])
                self.assertEqual(tree_loads(net, tree, starts), sorted(number.items()))
                # They are the loads of the table that has this tree alone.
                self.assertEqual(tree_loads(net, tree, starts), loads(net, table_of(net, [tree]), starts))
                many += 1
        self.assertGreater(many, 60)

    def test_chain(self):
        net = chain(12)
        told = tree_loads(net, net.line_names, net.others * 36)
        self.assertEqual([number for _, number in told], [36 * (11 - k) for k in range(11)])

    def test_errors(self):
        self.assertEqual(raised(tree_loads, fork(), ["ah"], ["a", "y", "z"]), ("UnknownHouse", "y"))
        for wrong in [["ah"], [], ["ca", "bc", "ah"], ["ac", "bc", "ca"], ["ah", "bc", "ca", "zz"],
                      ["ah", "ah", "bc", "ca"], ["zz"]]:
            self.assertEqual(raised(tree_loads, fork(), wrong, ["a"]), ("BadTree", 0))
            self.assertEqual(raised(tree_loads, fork(), wrong, []), ("BadTree", 0))
        self.assertEqual(raised(tree_loads, mixed(), ["a1", "bh"], []), ("BadTree", 0))
        self.assertEqual(raised(tree_loads, alone(), ["l1"], ["h"]), ("BadTree", 0))


class FreshTest(unittest.TestCase):
    def test_arguments_and_results(self):
        for net, table in CASES:
            again = Table(table.marks, tuple(reversed(table.entries)))
            other = remade(net)
            broken = net.line_names[::-2]
            starts = net.houses[::-1] * 2
            for house in net.houses:
                self.assertEqual(unharmed(self, detour, net, table, house, broken=broken),
                                 detour(other, again, house, broken=tuple(broken)))
            self.assertEqual(unharmed(self, worst_detour, net, table, 1), worst_detour(other, again, 1))
            self.assertEqual(unharmed(self, loads, net, table, starts, broken=broken),
                             loads(other, again, list(starts), broken=list(broken)))
            self.assertEqual(unharmed(self, busiest, net, table, starts, broken=broken),
                             busiest(other, again, list(starts), broken=list(broken)))
            for tree in plain_trees(net)[:2]:
                self.assertEqual(unharmed(self, tree_loads, net, tree, starts),
                                 tree_loads(other, list(tree), list(starts)))


if __name__ == "__main__":
    unittest.main()
