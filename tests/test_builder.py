import copy
import random
import unittest

from markshome.builder import build, finish_log, grove_of_log, is_build, log_of_grove
from markshome.buildlog import is_log, takeable
from markshome.flows import weakest_lot
from markshome.groves import all_groves
from markshome.lots import is_lot, lines_out
from markshome.nets import Net
from markshome.trees import depths, is_grove
from samples import (KINDS, alone, chain, fork, mixed, plain_free, plain_lots, plain_out, plain_strength, raised,
                     random_log, random_net, remade, strong_net, unharmed)

WHOLE = [(0, "ah"), (0, "ca"), (0, "bc"), (1, "bh"), (1, "cb"), (1, "ac")]
TREES = [["ah", "bc", "ca"], ["ac", "bh", "cb"]]


def made_cases():
    """Nets with a count and a whole right log."""
    found = []
    for seed in range(24):
        net = strong_net(seed, 1 + seed % 4, 1 + seed % 5 % 4, seed % 3)
        for count in range(min(4, plain_strength(net)) + 1):
            found.append((net, count, random_log(net, count, seed)))
    return found


CASES = made_cases()


class FinishTest(unittest.TestCase):
    def test_fork(self):
        for length in range(7):
            self.assertEqual(finish_log(fork(), 2, WHOLE[:length]), WHOLE)
        self.assertEqual(finish_log(fork(), 2, [(0, "bh")]),
                         [(0, "bh"), (0, "cb"), (0, "ac"), (1, "ah"), (1, "ca"), (1, "bc")])

    def test_the_smallest_line_each_time(self):
        for net, count, log in CASES:
            for length in range(len(log) + 1):
                told = finish_log(net, count, log[:length])
                self.assertEqual(told[:length], log[:length])
                self.assertEqual(len(told), len(log))
                for place in range(length, len(told)):
                    free = plain_free(net, count, told[:place])
                    self.assertEqual(told[place], (place // len(net.others), free[0]))

    def test_count_0_and_home_alone(self):
        self.assertEqual(finish_log(mixed(), 0, []), [])
        for count in range(5):
            self.assertEqual(finish_log(alone(), count, []), [])

    def test_large_nets(self):
        for seed in range(3):
            net = strong_net(seed, 11, 2, 8)
            log = []
            for _ in range(7):
                log.append((0, random.Random(seed).choice(takeable(net, 2, log))))
            told = finish_log(net, 2, log)
            self.assertEqual(told[:7], log)
            self.assertIs(is_log(net, 2, told), True)
            for place in range(7, 22):
                self.assertEqual(told[place], (place // 11, takeable(net, 2, told[:place])[0]))


class GroveOfLogTest(unittest.TestCase):
    def test_every_length(self):
        self.assertEqual([grove_of_log(fork(), 2, WHOLE[:length]) for length in range(7)],
                         [[], [], [], TREES[:1], TREES[:1], TREES[:1], TREES])

    def test_against_the_log(self):
        for net, count, log in CASES:
            for length in range(len(log) + 1):
                grove = grove_of_log(net, count, log[:length])
                done = length // len(net.others)
                self.assertEqual(grove, [sorted(name for index, name in log if index == k) for k in range(done)])
                self.assertIs(is_grove(net, grove), True)

    def test_count_0_and_home_alone(self):
        self.assertEqual(grove_of_log(mixed(), 0, []), [])
        for count in range(5):
            self.assertEqual(grove_of_log(alone(), count, []), [[]] * count)
            unharmed(self, grove_of_log, alone(), count, [])


class BuildTest(unittest.TestCase):
    def test_fork(self):
        self.assertEqual(build(fork(), 2), (TREES, WHOLE, None))
        self.assertEqual(build(fork(), 3), (None, None, ["a"]))
        self.assertEqual(build(fork(), 1), ([["ah", "bh", "ca"]], [(0, "ah"), (0, "bh"), (0, "ca")], None))
        self.assertEqual(build(fork(), 0), ([], [], None))

    def test_every_net(self):
        for seed in range(120):
            net = random_net(seed) if seed % 2 else strong_net(seed, 1 + seed % 5, seed % 5, 3)
            least = plain_strength(net)
            for count in range(5):
                grove, log, lot = build(net, count)
                self.assertIs(is_build(net, count, (grove, log, lot)), True)
                if least is None or least >= count:
                    self.assertIsNone(lot)
                    self.assertEqual(log, finish_log(net, count, []))
                    self.assertEqual(grove, grove_of_log(net, count, log))
                    self.assertEqual(len(grove), count)
                    self.assertIs(is_grove(net, grove), True)
                else:
                    self.assertEqual((grove, log, lot), (None, None, weakest_lot(net)))
                    self.assertLess(len(plain_out(net, lot)), count)

    def test_home_alone(self):
        for count in range(5):
            for net in (alone(), Net("h")):
                self.assertEqual(build(net, count), ([[]] * count, [], None))
                unharmed(self, build, net, count)

    def test_large_nets(self):
        for seed in range(4):
            net = strong_net(seed, 11, 2, 8)
            paper = build(net, 2)
            self.assertIs(is_grove(net, paper[0]), True)
            self.assertIs(is_build(net, 2, paper), True)
            self.assertIs(is_lot(net, build(net, 4)[2]), True)
        self.assertEqual(build(chain(12), 1)[0], [chain(12).line_names])
        self.assertEqual(build(chain(12), 2), (None, None, ["n01"]))

    def test_wrong_counts(self):
        for net in (fork(), alone(), mixed()):
            for count in (-1, 5, 10 ** 59):
                self.assertEqual(raised(build, net, count), ("OutOfRange", "count", count))


class IsBuildTest(unittest.TestCase):
    def test_other_right_papers(self):
        for net, count, log in CASES:
            grove = [sorted(name for index, name in log if index == k) for k in range(count)]
            self.assertIs(is_build(net, count, (grove, log, None)), True)
        for net in [fork(), mixed()] + [random_net(seed) for seed in range(20)]:
            for count in range(5):
                for lot in plain_lots(net):
                    right = len(lines_out(net, lot)) < count
                    self.assertIs(is_build(net, count, (None, None, lot)), right)

    def test_near_papers(self):
        other = [WHOLE[k] for k in (0, 1, 2)] + [(1, "bh"), (1, "cb"), (1, "ac")]
        self.assertIs(is_build(fork(), 2, (TREES, other, None)), True)
        wrong = [(TREES[::-1], WHOLE, None), (TREES, WHOLE[:5], None), (TREES[:1], WHOLE[:3], None),
                 (tuple(TREES), WHOLE, None), ([tuple(tree) for tree in TREES], WHOLE, None),
                 ([["bc", "ah", "ca"], TREES[1]], WHOLE, None), (TREES, tuple(WHOLE), None),
                 (TREES, [list(entry) for entry in WHOLE], None), ([], WHOLE, None), (TREES, None, None),
                 (TREES, [(bool(index), line) for index, line in WHOLE], None), (TREES + [[]], WHOLE, None),
                 (None, WHOLE, None), (None, None, None), (TREES, WHOLE), (TREES, WHOLE, None, None),
                 [TREES, WHOLE, None], (TREES, WHOLE, []), (TREES, WHOLE, ["a"]), (None, None, ["a"]),
                 (TREES, WHOLE, False), (None, WHOLE, ["a"]), (TREES, None, ["a"])]
        for paper in wrong:
            before = copy.deepcopy(paper)
            self.assertIs(is_build(fork(), 2, paper), False, paper)
            self.assertEqual(paper, before)
        self.assertIs(is_build(fork(), 3, (None, None, ["a"])), True)
        for paper in [(None, None, ["b", "a"]), (None, None, []), (None, None, ["a", "a"]), (None, None, ["h"]),
                      (None, None, ("a",)), (None, None, ["z"]), (None, None, [["a"]]), (None, [], ["a"]),
                      ([], None, ["a"]), ([], [], ["a"]), (TREES, WHOLE, None), (False, None, ["a"]), ([], [], None),
                      (None, None, ["a", "c"]), (None, None, {"a": 1}), (None, None, None)]:
            right = paper == (None, None, ["a", "c"]) and len(lines_out(fork(), ["a", "c"])) < 3
            self.assertIs(is_build(fork(), 3, paper), right, paper)

    def test_count_0_and_home_alone(self):
        self.assertIs(is_build(fork(), 0, ([], [], None)), True)
        self.assertIs(is_build(mixed(), 0, ([], [], None)), True)
        self.assertIs(is_build(fork(), 0, ([[]], [], None)), False)
        self.assertIs(is_build(fork(), 0, (None, None, ["a"])), False)
        for count in range(5):
            for many in range(6):
                self.assertIs(is_build(alone(), count, ([[]] * many, [], None)), many == count)
            self.assertIs(is_build(alone(), count, (None, None, [])), False)
            self.assertIs(is_build(alone(), count, (None, None, ["h"])), False)

    def test_every_kind(self):
        for value in KINDS:
            for paper in [value, (value, value, value), (value, [], None), ([], value, None), (None, None, value)]:
                before = copy.deepcopy(paper)
                self.assertIs(is_build(fork(), 2, paper), False, repr(paper))
                self.assertEqual(paper, before)
        for count in (-1, 5):
            self.assertEqual(raised(is_build, fork(), count, None), ("OutOfRange", "count", count))


class LogOfGroveTest(unittest.TestCase):
    def test_fork(self):
        self.assertEqual(log_of_grove(fork(), TREES), WHOLE)
        self.assertEqual(log_of_grove(fork(), TREES[:1]), WHOLE[:3])
        self.assertEqual(log_of_grove(fork(), [["ah", "bh", "ca"]]), [(0, "ah"), (0, "bh"), (0, "ca")])
        self.assertEqual(log_of_grove(fork(), []), [])

    def test_equal_depths_are_ordered_by_line(self):
        net = Net("h", ["a", "b", "c", "d"], [("z", "a", "h"), ("y", "b", "h"), ("x", "c", "a"), ("w", "d", "b")])
        self.assertEqual(log_of_grove(net, [["w", "x", "y", "z"]]), [(0, "y"), (0, "z"), (0, "w"), (0, "x")])

    def test_every_grove(self):
        met = 0
        for seed in range(60):
            net = strong_net(seed, 1 + seed % 4, seed % 3, seed % 4)
            for count in range(4):
                if raised(all_groves, net, count):
                    continue
                for grove in all_groves(net, count)[:40]:
                    log = log_of_grove(net, grove)
                    self.assertIs(is_log(net, count, log), True)
                    self.assertEqual(grove_of_log(net, count, log), grove)
                    for index, tree in enumerate(grove):
                        deep = depths(net, tree)
                        order = sorted(tree, key=lambda line: (deep[net.tail(line)], line))
                        self.assertEqual([line for at, line in log if at == index], order)
                    met += 1
        self.assertGreater(met, 200)

    def test_home_alone(self):
        for count in range(5):
            self.assertEqual(log_of_grove(alone(), [[]] * count), [])

    def test_errors(self):
        self.assertEqual(raised(log_of_grove, fork(), [["zz"]] * 5), ("TooMany", "trees", 5, 4))
        self.assertEqual(raised(log_of_grove, alone(), [[]] * 5), ("TooMany", "trees", 5, 4))
        self.assertEqual(raised(log_of_grove, fork(), [TREES[0], TREES[0]]), ("BadTree", 1))
        self.assertEqual(raised(log_of_grove, fork(), [[], TREES[0]]), ("BadTree", 0))
        self.assertEqual(raised(log_of_grove, fork(), [TREES[0], ["zz"], []]), ("BadTree", 1))
        self.assertEqual(raised(log_of_grove, fork(), [["bc", "ah", "ca"]]), ("BadTree", 0))
        self.assertEqual(raised(log_of_grove, alone(), [[], ["l1"]]), ("BadTree", 1))


class ErrorsTest(unittest.TestCase):
    def test_finish_and_grove(self):
        for call in (finish_log, grove_of_log):
            self.assertEqual(raised(call, fork(), 5, [(0, "zz")]), ("OutOfRange", "count", 5))
            self.assertEqual(raised(call, alone(), -1, []), ("OutOfRange", "count", -1))
            self.assertEqual(raised(call, fork(), 3, [(0, "zz")]), ("Weak", 2, 3))
            self.assertEqual(raised(call, fork(), 2, WHOLE[:2] + [(0, "zz")]), ("BadLog", 2))
            self.assertEqual(raised(call, fork(), 2, WHOLE + [(2, "ah")]), ("BadLog", 6))
            self.assertEqual(raised(call, fork(), 2, [(-1, "ah")]), ("BadLog", 0))
            self.assertEqual(raised(call, alone(), 3, [(0, "l1")]), ("BadLog", 0))


class FreshTest(unittest.TestCase):
    def test_arguments_and_results(self):
        for net, count, log in CASES:
            for call in (finish_log, grove_of_log):
                told = unharmed(self, call, net, count, log)
                self.assertEqual(call(remade(net), count, list(log)), told)
            paper = unharmed(self, build, net, count)
            self.assertEqual(build(remade(net), count), paper)
            unharmed(self, is_build, net, count, paper)
            unharmed(self, log_of_grove, net, paper[0])
            self.assertEqual(unharmed(self, build, net, 4), build(remade(net), 4))


if __name__ == "__main__":
    unittest.main()
