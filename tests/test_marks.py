import copy
import unittest

from markshome.builder import build
from markshome.diary import Diary
from markshome.errors import BadTable
from markshome.groves import all_groves
from markshome.marks import differences, grove_of_table, holes, is_grove_table, table_fault, table_of
from markshome.nets import Net
from markshome.post import Post
from markshome.runs import Run
from markshome.tables import Table
from markshome.trees import is_grove, line_from
from samples import (KINDS, alone, chain, fork, mixed, raised, random_net, random_table, remade, strong_net,
                     unharmed)

GROVE = [["ah", "bc", "ca"], ["ac", "bh", "cb"]]
ROWS = [("a", 0, "ah", 1), ("a", 1, "ac", None), ("b", 0, "bc", 1), ("b", 1, "bh", None), ("c", 0, "ca", 1),
        ("c", 1, "cb", None)]


def groves():
    """Nets with groves of 0 to 4 trees."""
    for seed in range(40):
        net = strong_net(seed, 1 + seed % 4, seed % 5, seed % 3)
        for count in range(seed % 5 + 1):
            yield net, build(net, count)[0]
            if raised(all_groves, net, count) is None:
                for grove in all_groves(net, count)[:5]:
                    yield net, grove[::-1]


class FaultTest(unittest.TestCase):
    def test_fork(self):
        self.assertIsNone(table_fault(fork(), Table(2, ROWS)))
        self.assertIsNone(table_fault(fork(), Table(2, ROWS[:3])))
        self.assertIsNone(table_fault(fork(), Table(0)))
        wrong = [("a", 1, "bh", None), ("a", 1, "zz", None), ("h", 1, "ah", None), ("z", 1, "ah", None),
                 ("a", 1, "a", None)]
        for row in wrong:
            self.assertEqual(table_fault(fork(), Table(2, [row])), (row[0], 1))

    def test_the_first_entry_in_the_tables_order(self):
        rows = [("c", 0, "ah", None), ("b", 1, "ah", None), ("b", 0, "zz", None), ("a", 0, "ah", None)]
        self.assertEqual(table_fault(fork(), Table(2, rows)), ("b", 0))

    def test_home_and_loops(self):
        self.assertIsNone(table_fault(mixed(), Table(1, [("a", 0, "aa", 0)])))
        self.assertEqual(table_fault(mixed(), Table(1, [("h", 0, "hh", 0)])), ("h", 0))
        self.assertEqual(table_fault(mixed(), Table(1, [("h", 0, "ha", 0)])), ("h", 0))
        self.assertEqual(table_fault(mixed(), Table(1, [("b", 0, "ab", 0)])), ("b", 0))
        self.assertEqual(table_fault(alone(), Table(1, [("h", 0, "l1", 0)])), ("h", 0))
        self.assertIsNone(table_fault(alone(), Table(4)))

    def test_by_definition(self):
        met = 0
        for seed in range(200):
            net = random_net(seed)
            table = random_table(net, seed, 0.1)
            wrong = [(house, mark) for house, mark, line, _ in table.entries
                     if house not in net.others or line not in net.out(house)]
            self.assertEqual(table_fault(net, table), wrong[0] if wrong else None)
            met += wrong != []
        self.assertGreater(met, 50)


class HolesTest(unittest.TestCase):
    def test_fork(self):
        self.assertEqual(holes(fork(), Table(2, ROWS)), [])
        self.assertEqual(holes(fork(), Table(3, ROWS[:2] + ROWS[4:])),
                         [("a", 2), ("b", 0), ("b", 1), ("b", 2), ("c", 2)])
        self.assertEqual(holes(fork(), Table(0)), [])
        self.assertEqual(holes(fork(), Table(1)), [("a", 0), ("b", 0), ("c", 0)])

    def test_other_houses_and_any_table(self):
        self.assertEqual(holes(fork(), Table(1, [("h", 0, "ah", None), ("z", 0, "zz", None), ("b", 0, "zz", None)])),
                         [("a", 0), ("c", 0)])
        self.assertEqual(holes(alone(), Table(4)), [])

    def test_by_definition(self):
        for seed in range(60):
            net = random_net(seed)
            table = random_table(net, seed, 0.1)
            self.assertEqual(holes(net, table), [(house, mark) for house in net.others for mark in range(table.marks)
                                                 if table.entry(house, mark) is None])


class DifferencesTest(unittest.TestCase):
    def test_fork(self):
        table = Table(2, ROWS)
        self.assertEqual(differences(table, Table(2, ROWS[::-1])), [])
        self.assertEqual(differences(table, Table(4, ROWS)), [])
        self.assertEqual(differences(table, Table(2, ROWS[1:5])), [("a", 0), ("c", 1)])
        self.assertEqual(differences(Table(2, ROWS[1:5]), table), [("a", 0), ("c", 1)])
        self.assertEqual(differences(table, Table(2, ROWS[:4] + [("c", 0, "cb", 1), ("c", 1, "cb", 0)])),
                         [("c", 0), ("c", 1)])
        self.assertEqual(differences(Table(0), Table(4)), [])
        self.assertEqual(differences(Table(1, [("b", 0, "x", None), ("a", 0, "x", None)]), Table(1)),
                         [("a", 0), ("b", 0)])

    def test_by_definition(self):
        for seed in range(60):
            net = random_net(seed)
            first = random_table(net, seed, 0.1)
            second = random_table(net, seed + 1000, 0.1)
            one = {entry[:2]: entry for entry in first.entries}
            two = {entry[:2]: entry for entry in second.entries}
            told = sorted(pair for pair in set(one) | set(two) if one.get(pair) != two.get(pair))
            self.assertEqual(differences(first, second), told)
            self.assertEqual(differences(second, first), told)


class TableOfTest(unittest.TestCase):
    def test_fork(self):
        self.assertEqual(table_of(fork(), GROVE), Table(2, ROWS))
        self.assertEqual(table_of(fork(), GROVE).entries, ROWS)
        self.assertEqual(table_of(fork(), GROVE[:1]).entries, [("a", 0, "ah", None), ("b", 0, "bc", None),
                                                               ("c", 0, "ca", None)])
        self.assertEqual(table_of(fork(), []), Table(0))

    def test_every_grove(self):
        counts = set()
        for net, grove in groves():
            table = table_of(net, grove)
            counts.add(len(grove))
            self.assertEqual(table.marks, len(grove))
            last = len(grove) - 1
            self.assertEqual(table.entries,
                             [(house, mark, line_from(net, grove[mark], house), None if mark == last else mark + 1)
                              for house in net.others for mark in range(len(grove))])
            self.assertIsNone(table_fault(net, table))
            self.assertEqual(holes(net, table), [])
        self.assertEqual(counts, {0, 1, 2, 3, 4})

    def test_home_alone(self):
        for count in range(5):
            self.assertEqual(table_of(alone(), [[]] * count), Table(count))

    def test_large_net(self):
        net = strong_net(1, 11, 2, 8)
        table = table_of(net, build(net, 2)[0])
        self.assertEqual(len(table.entries), 22)
        self.assertEqual(grove_of_table(net, table), build(net, 2)[0])

    def test_errors(self):
        self.assertEqual(raised(table_of, fork(), [["zz"]] * 5), ("TooMany", "trees", 5, 4))
        self.assertEqual(raised(table_of, alone(), [[]] * 6), ("TooMany", "trees", 6, 4))
        self.assertEqual(raised(table_of, fork(), [GROVE[0], GROVE[0]]), ("BadTree", 1))
        self.assertEqual(raised(table_of, fork(), [["zz"], GROVE[0]]), ("BadTree", 0))
        self.assertEqual(raised(table_of, fork(), [GROVE[0], GROVE[1], []]), ("BadTree", 2))
        self.assertEqual(raised(table_of, fork(), [["bc", "ah", "ca"]]), ("BadTree", 0))
        self.assertEqual(raised(table_of, alone(), [["l1"]]), ("BadTree", 0))


class GroveOfTableTest(unittest.TestCase):
    def test_there_and_back(self):
        for net, grove in groves():
            table = table_of(net, grove)
            self.assertEqual(grove_of_table(net, table), grove)
            self.assertIs(is_grove_table(net, table), True)

    def test_no_groves_table(self):
        wrong = [ROWS[:5], [("a", 0, "ah", None)] + ROWS[1:], [("a", 0, "ah", 0)] + ROWS[1:],
                 ROWS[:5] + [("c", 1, "cb", 1)], ROWS[:5] + [("c", 1, "cb", 0)], [("a", 0, "ac", 1)] + ROWS[1:],
                 ROWS[:5] + [("c", 1, "ca", None)], ROWS + [("h", 0, "ah", 1)], ROWS + [("z", 0, "zz", 1)],
                 ROWS[:5] + [("c", 1, "zz", None)], ROWS[:5] + [("z", 1, "cb", None)], []]
        for rows in wrong:
            self.assertIsNone(grove_of_table(fork(), Table(2, rows)), rows)
            self.assertIs(is_grove_table(fork(), Table(2, rows)), False)
        self.assertIsNone(grove_of_table(fork(), Table(3, ROWS)))
        swapped = [("a", 0, "bc", None), ("b", 0, "ah", None), ("c", 0, "ca", None)]
        self.assertIsNone(grove_of_table(fork(), Table(1, swapped)))

    def test_a_ring_is_no_tree(self):
        rows = [("a", 0, "ac", None), ("b", 0, "bh", None), ("c", 0, "ca", None)]
        self.assertIsNone(grove_of_table(fork(), Table(1, rows)))

    def test_no_marks_and_home_alone(self):
        for net in (fork(), mixed(), alone(), Net("h")):
            self.assertEqual(grove_of_table(net, Table(0)), [])
            self.assertIs(is_grove_table(net, Table(0)), True)
        for marks in range(5):
            self.assertEqual(grove_of_table(alone(), Table(marks)), [[]] * marks)
            unharmed(self, grove_of_table, alone(), Table(marks))
            if marks:
                self.assertIsNone(grove_of_table(fork(), Table(marks)))
                self.assertIsNone(grove_of_table(alone(), Table(marks, [("h", 0, "l1", None)])))
                self.assertIsNone(grove_of_table(alone(), Table(marks, [("a", 0, "l1", None)])))

    def test_by_definition(self):
        met = 0
        for seed in range(400):
            net = strong_net(seed, 1 + seed % 2, 1 + seed % 2, 1)
            table = random_table(net, seed, 0.02)
            grove = [sorted(line for _, mark, line, _ in table.entries if mark == k) for k in range(table.marks)]
            right = is_grove(net, grove) and table_of(net, grove).entries == table.entries
            self.assertEqual(grove_of_table(net, table), grove if right else None)
            self.assertIs(is_grove_table(net, table), right)
            met += right and table.marks > 0
        self.assertGreater(met, 5)

    def test_every_kind(self):
        others = [fork(), BadTable("a", 0), Run("h", 0, "home", []), Diary(), Post(fork(), Table(2, ROWS))]
        for value in KINDS + [ROWS, (2, ROWS), GROVE] + others:
            for net in (fork(), alone()):
                self.assertIs(is_grove_table(net, value), False, repr(value))


class FreshTest(unittest.TestCase):
    def test_arguments_and_results(self):
        for net, grove in groves():
            table = unharmed(self, table_of, net, grove)
            self.assertEqual(table_of(remade(net), copy.deepcopy(grove)), table)
            unharmed(self, grove_of_table, net, table)
            unharmed(self, is_grove_table, net, table)
        for seed in range(30):
            net = random_net(seed)
            table = random_table(net, seed, 0.1)
            again = Table(table.marks, tuple(reversed(table.entries)))
            for call in (table_fault, holes, grove_of_table):
                self.assertEqual(unharmed(self, call, net, table), call(remade(net), again))
            unharmed(self, differences, table, Table(2, ROWS))
        self.assertIsNone(table_fault(chain(12), Table(1, [("n01", 0, "l01", None)])))


if __name__ == "__main__":
    unittest.main()
