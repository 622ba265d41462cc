import copy
import itertools
import unittest

from markshome.nets import Net
from markshome.trees import below, depth_sum, depths, first_bad_tree, is_grove, is_tree, tree_line, tree_way
from samples import KINDS, alone, chain, fork, mixed, plain_trees, raised, random_net, remade, unharmed

NETS = [fork(), mixed(), alone(), Net("h"), Net("h", ["a"]), mixed() - ["aa"]]
NETS += [random_net(seed, 4, 8) for seed in range(50)]
# Without the house that has no line out there are trees.
LOOPY = Net("h", ["a", "b"], [line for line in mixed().lines if "d" not in line])
HOUSE_CALLS = [tree_line, tree_way, below]


class IsTreeTest(unittest.TestCase):
    def test_fork(self):
        for tree in [["ac", "bh", "cb"], ["ah", "bc", "ca"], ["ah", "bh", "ca"], ["ah", "bh", "cb"]]:
            self.assertIs(is_tree(fork(), tree), True)

    def test_against_all_lists(self):
        for net in NETS:
            right = plain_trees(net)
            for size in range(len(net.others) + 2):
                for tree in itertools.combinations(net.line_names, size):
                    self.assertIs(is_tree(net, list(tree)), list(tree) in right)

    def test_home_alone(self):
        self.assertIs(is_tree(alone(), []), True)
        self.assertIs(is_tree(alone(), ["l1"]), False)
        self.assertIs(is_tree(Net("h"), []), True)

    def test_wrong_lists(self):
        self.assertIs(is_tree(LOOPY, ["a1", "bh"]), True)
        for tree in [[], ["a1"], ["bh", "a1"], ["a1", "a1", "bh"], ["a1", "a2", "bh"], ["ab", "ba"], ["aa", "bh"],
                     ["a1", "bh", "hh"], ["a1", "bh", "ha"], ["a1", "zz"], ["a1", "bh", "zz"], ["a1", ["bh"]],
                     ["a1", None], ["a1", True], [{"a1": 1}, "bh"], [["a1", "bh"]], ["a1", "hb"], ["a", "b"], [""]]:
            before = copy.deepcopy(tree)
            self.assertIs(is_tree(LOOPY, tree), False, repr(tree))
            self.assertEqual(tree, before)

    def test_a_ring_away_from_home(self):
        net = Net("h", ["a", "b", "c"], [("x", "a", "b"), ("y", "b", "a"), ("z", "c", "h")])
        self.assertIs(is_tree(net, ["x", "y", "z"]), False)

    def test_long_tree(self):
        self.assertIs(is_tree(chain(12), chain(12).line_names), True)

    def test_every_kind(self):
        for value in KINDS + [("a1", "bh"), {"a1": 1, "bh": 1}, "a1"]:
            before = copy.deepcopy(value)
            self.assertIs(is_tree(LOOPY, value), False, repr(value))
            self.assertIs(is_tree(alone(), value), isinstance(value, list) and value == [], repr(value))
            self.assertEqual(value, before)


class IsGroveTest(unittest.TestCase):
    def test_right_groves(self):
        for grove in [[], [["ah", "bc", "ca"]], [["ah", "bc", "ca"], ["ac", "bh", "cb"]],
                      [["ac", "bh", "cb"], ["ah", "bc", "ca"]]]:
            self.assertIs(is_grove(fork(), grove), True)

    def test_wrong_groves(self):
        tree = ["ah", "bc", "ca"]
        for grove in [[[]], [tree, tree], [tree, ["ac", "bh", "ca"]], [tree, ["ah", "bh", "cb"]], [tree, []],
                      [["bc", "ah", "ca"]], [tuple(tree)], (tree,), [tree, None], [tree, {}], tree, [[tree]],
                      [tree, ["ac", "bh", ["cb"]]], [tree, ["ac", "bh", "zz"]], [tree, "ac"], {0: tree}]:
            before = copy.deepcopy(grove)
            self.assertIs(is_grove(fork(), grove), False, repr(grove))
            self.assertEqual(grove, before)

    def test_more_than_four_trees(self):
        net = Net("h", ["a"], [(f"l{k}", "a", "h") for k in range(6)])
        self.assertIs(is_grove(net, [[f"l{k}"] for k in range(6)]), True)
        self.assertIs(is_grove(net, [[f"l{k}"] for k in (0, 1, 2, 3, 4, 0)]), False)
        self.assertIs(is_grove(alone(), [[]] * 7), True)
        self.assertIs(is_grove(alone(), [[]] * 6 + [["l1"]]), False)

    def test_no_tree(self):
        self.assertIs(is_grove(mixed(), []), True)
        self.assertIs(is_grove(mixed(), [[]]), False)

    def test_every_kind(self):
        for value in KINDS:
            before = copy.deepcopy(value)
            self.assertIs(is_grove(fork(), value), isinstance(value, list) and value == [], repr(value))
            self.assertIs(is_grove(alone(), value), isinstance(value, list) and value in ([], [[]]), repr(value))
            self.assertEqual(value, before)

    def test_against_all_pairs(self):
        for net in NETS[:30]:
            trees = plain_trees(net)
            for first, second in itertools.product(trees, repeat=2):
                self.assertIs(is_grove(net, [first, second]), not set(first) & set(second))


class FirstBadTreeTest(unittest.TestCase):
    def test_samples(self):
        one, other, third = ["ah", "bc", "ca"], ["ac", "bh", "cb"], ["ah", "bh", "cb"]
        for grove, told in [([], None), ([one], None), ([one, other], None), ([[]], 0), ([one, []], 1),
                            ([one, one], 1), ([one, other, third], 2), ([one, third, other], 1),
                            ([third, other, []], 1), ([["zz"], one], 0), ([one, other, ["cb", "bh", "ac"]], 2),
                            ([one, other] + [one] * 100, 2)]:
            self.assertEqual(first_bad_tree(fork(), grove), told)

    def test_home_alone(self):
        self.assertIsNone(first_bad_tree(alone(), [[]] * 6))
        self.assertEqual(first_bad_tree(alone(), [[], [], ["l1"], []]), 2)


class InsideTest(unittest.TestCase):
    def test_fork(self):
        net, tree = fork(), ["ac", "bh", "cb"]
        self.assertEqual([tree_line(net, tree, house) for house in "abch"], ["ac", "bh", "cb", None])
        self.assertEqual([tree_way(net, tree, house) for house in "abch"],
                         [["ac", "cb", "bh"], ["bh"], ["cb", "bh"], []])
        self.assertEqual(depths(net, tree), {"a": 3, "b": 1, "c": 2, "h": 0})
        self.assertEqual(depth_sum(net, tree), 6)
        self.assertEqual([below(net, tree, house) for house in "abch"],
                         [["a"], ["a", "b", "c"], ["a", "c"], ["a", "b", "c", "h"]])

    def test_home_alone(self):
        for net in [alone(), Net("h")]:
            self.assertIsNone(tree_line(net, [], "h"))
            self.assertEqual(tree_way(net, [], "h"), [])
            self.assertEqual(depths(net, []), {"h": 0})
            self.assertEqual(depth_sum(net, []), 0)
            self.assertEqual(below(net, [], "h"), ["h"])

    def test_long_tree(self):
        net = chain(12)
        self.assertEqual(tree_way(net, net.line_names, "n11"), list(reversed(net.line_names)))
        self.assertEqual(depth_sum(net, net.line_names), 66)
        self.assertEqual(below(net, net.line_names, "n09"), ["n09", "n10", "n11"])

    def test_every_tree(self):
        for net in NETS:
            for tree in plain_trees(net):
                ways = {house: tree_way(net, tree, house) for house in net.houses}
                for house, way in ways.items():
                    self.assertEqual([net.tail(line) for line in way] + ["h"],
                                     [house] + [net.head(line) for line in way])
                    self.assertEqual(tree_line(net, tree, house), way[0] if way else None)
                    self.assertTrue(set(way) <= set(tree))
                    passed = [other for other in net.houses
                              if house == other or house in [net.head(line) for line in ways[other]]]
                    self.assertEqual(below(net, tree, house), passed)
                self.assertEqual(depths(net, tree), {house: len(way) for house, way in ways.items()})
                self.assertEqual(depth_sum(net, tree), sum(len(way) for way in ways.values()))

    def test_bad_tree(self):
        for tree in [[], ["bh", "ac", "cb"], ["ac", "bh", "zz"], ["ac", "bc", "cb"], ["ac", "bh"], [""],
                     ["ac", "ah", "bh", "cb"]]:
            for call in HOUSE_CALLS:
                for house in ["a", "h"]:
                    self.assertEqual(raised(call, fork(), tree, house), ("BadTree", 0))
            for call in [depths, depth_sum]:
                self.assertEqual(raised(call, fork(), tree), ("BadTree", 0))
        for call in [depths, depth_sum]:
            self.assertEqual(raised(call, alone(), ["l1"]), ("BadTree", 0))

    def test_unknown_house(self):
        for call in HOUSE_CALLS:
            for tree in [["ac", "bh", "cb"], ["zz"], []]:
                self.assertEqual(raised(call, fork(), tree, "x"), ("UnknownHouse", "x"))
                self.assertEqual(raised(call, fork(), tree, "ah"), ("UnknownHouse", "ah"))


class ResultsTest(unittest.TestCase):
    def test_new_results_and_unchanged_arguments(self):
        tree = ["ac", "bh", "cb"]
        for call, arguments in [(is_tree, [tree]), (is_grove, [[tree]]), (first_bad_tree, [[tree, tree]]),
                                (tree_line, [tree, "a"]), (tree_way, [tree, "a"]), (tree_way, [tree, "h"]),
                                (depths, [tree]), (depth_sum, [tree]), (below, [tree, "b"]), (below, [tree, "h"])]:
            told = unharmed(self, call, fork(), *arguments)
            self.assertEqual(told, call(remade(fork()), *arguments))


if __name__ == "__main__":
    unittest.main()
