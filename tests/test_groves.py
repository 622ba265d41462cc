import itertools
import math
import unittest

from markshome.groves import all_groves, all_trees, count_trees
from markshome.nets import Net
from markshome.trees import is_grove
from samples import alone, chain, fork, large_net, mixed, plain_trees, raised, random_net, remade, unharmed

NETS = [fork(), mixed(), alone(), Net("h"), Net("h", ["a"]), mixed() - ["aa"]]
NETS += [random_net(seed, 4, 9) for seed in range(80)]


def fan(*many):
    """A net with so many lines home from each of its houses."""
    houses = [f"x{k:02}" for k in range(len(many))]
    return Net("h", houses, [(f"{house}l{k:02}", house, "h") for house, lines in zip(houses, many)
                             for k in range(lines)])


def crowd(many):
    """A net with one line from each of so many houses to each other one and to home."""
    houses = [f"x{k}" for k in range(many)]
    ends = [(tail, head) for tail in houses for head in houses + ["h"] if tail != head]
    return Net("h", houses, [(f"l{k}", tail, head) for k, (tail, head) in enumerate(ends)])


def acyclic():
    """A net of 12 houses and 30 lines without a ring, with loops at home and lines out of it."""
    names = ["h"] + [f"x{k:02}" for k in range(11)]
    lines = [(f"l{k:02}", names[k], names[k - 1]) for k in range(1, 12)]
    lines += [(f"m{k:02}", names[k], names[k // 2]) for k in range(1, 12)]
    lines += [(f"n{k:02}", "h", names[k]) for k in range(8)]
    return Net("h", names[1:], lines)


class AllTreesTest(unittest.TestCase):
    def test_fork(self):
        self.assertEqual(all_trees(fork()), [["ac", "bh", "cb"], ["ah", "bc", "ca"], ["ah", "bh", "ca"],
                                             ["ah", "bh", "cb"]])

    def test_home_alone(self):
        self.assertEqual(all_trees(alone()), [[]])
        self.assertEqual(all_trees(Net("h")), [[]])

    def test_no_tree(self):
        self.assertEqual(all_trees(mixed()), [])
        self.assertEqual(all_trees(Net("h", ["a"], [("x", "a", "a"), ("y", "h", "a")])), [])

    def test_every_net(self):
        for net in NETS:
            if math.prod(len(net.out(house)) for house in net.others) <= 400:
                self.assertEqual(all_trees(net), plain_trees(net))

    def test_limit(self):
        self.assertEqual(len(all_trees(fan(10, 10, 4))), 400)
        self.assertEqual(len(all_trees(fan(*[2] * 8))), 256)
        self.assertEqual(raised(all_trees, fan(17, 6, 4)), ("TooMany", "choices", 408, 400))
        self.assertEqual(raised(all_trees, fan(*[2] * 9)), ("TooMany", "choices", 512, 400))
        self.assertEqual(raised(all_trees, large_net(0)), ("TooMany", "choices", 3 ** 8 * 2 ** 3, 400))

    def test_loops_count_as_choices(self):
        net = Net("h", ["a", "b"], [(f"a{k}", "a", "h") for k in range(10, 30)] + [("aa", "a", "a")]
                  + [(f"b{k}", "b", "b") for k in range(1, 9)])
        self.assertEqual(all_trees(net), [])
        lines = [(f"a{k:02}", "a", "a") for k in range(15)] + [(f"b{k:02}", "b", "b") for k in range(15)]
        self.assertEqual(all_trees(Net("h", ["a", "b"], lines)), [])
        wide = Net("h", ["a", "b", "c"], [(f"l{k:02}", "abc"[k % 3], "h" if k < 3 else "abc"[k % 3])
                                          for k in range(24)])
        self.assertEqual(raised(all_trees, wide), ("TooMany", "choices", 512, 400))
        self.assertEqual(count_trees(wide), 1)

    def test_a_house_without_lines_makes_the_product_nought(self):
        net = fan(*[3] * 10, 0)
        self.assertEqual((len(net.lines), len(net.houses)), (30, 12))
        self.assertEqual(all_trees(net), [])
        self.assertEqual(all_groves(net, 4), [])


class CountTreesTest(unittest.TestCase):
    def test_samples(self):
        self.assertEqual([count_trees(net) for net in [fork(), mixed(), alone(), Net("h"), chain(12)]],
                         [4, 0, 1, 1, 1])
        self.assertEqual(count_trees(fan(*[2] * 9)), 512)

    def test_every_net(self):
        for net in NETS + [random_net(seed, 5, 14) for seed in range(100, 140)]:
            self.assertEqual(count_trees(net), len(plain_trees(net)))

    def test_crowds(self):
        for many in range(1, 6):
            self.assertEqual(count_trees(crowd(many)), (many + 1) ** (many - 1))

    def test_large_nets(self):
        self.assertEqual(count_trees(fan(*[3] * 8, *[2] * 3)), 3 ** 8 * 2 ** 3)
        self.assertEqual((len(acyclic().houses), len(acyclic().lines)), (12, 30))
        self.assertEqual(count_trees(acyclic()), 2 ** 11)
        for seed in range(5):
            net = large_net(seed)
            self.assertEqual(count_trees(net), by_parting(net))

    def test_pivots_that_are_nought(self):
        lines = [("aa", "a", "a"), ("ab", "a", "b"), ("ba", "b", "a"), ("bh", "b", "h"), ("cc", "c", "c"),
                 ("cb", "c", "b")]
        self.assertEqual(count_trees(Net("h", ["a", "b", "c"], lines)), 1)


def by_parting(net):
    """The number of trees, reckoned from the nets with and without one line into home."""
    lines = [line for line in net.lines if line[1] != net.home and line[1] != line[2]]
    if not net.others:
        return 1
    inward = [line for line in lines if line[2] == net.home]
    if not inward:
        return 0
    name, joined, _ = inward[0]
    rest = [line for line in lines if line[0] != name]
    if not any(line[1] == joined for line in rest):
        return by_parting(drawn_in(net, joined, rest))
    return by_parting(Net(net.home, net.others, rest)) + by_parting(drawn_in(net, joined, rest))


def drawn_in(net, house, lines):
    """The net with the house drawn into home, without the lines out of the house."""
    kept = [(name, tail, net.home if head == house else head) for name, tail, head in lines if tail != house]
    return Net(net.home, [other for other in net.others if other != house], kept)


class AllGrovesTest(unittest.TestCase):
    def test_the_example(self):
        self.assertEqual(all_groves(fork(), 2), [[["ac", "bh", "cb"], ["ah", "bc", "ca"]]])

    def test_other_counts_of_the_fork(self):
        self.assertEqual(all_groves(fork(), 0), [[]])
        self.assertEqual(all_groves(fork(), 1), [[tree] for tree in all_trees(fork())])
        self.assertEqual([all_groves(fork(), count) for count in (3, 4)], [[], []])

    def test_home_alone(self):
        for net in [alone(), Net("h")]:
            self.assertEqual([all_groves(net, count) for count in range(5)],
                             [[[]], [[[]]], [[[], []]], [[[], [], []]], [[[], [], [], []]]])

    def test_no_tree(self):
        self.assertEqual([all_groves(mixed(), count) for count in range(5)], [[[]], [], [], [], []])

    def test_every_net(self):
        for net in NETS:
            trees = plain_trees(net)
            if net.others and math.prod(len(net.out(house)) for house in net.others) <= 400:
                for count in range(5):
                    if math.comb(len(trees), count) <= 400:
                        right = [list(grove) for grove in itertools.combinations(trees, count)
                                 if is_grove(net, list(grove))]
                        self.assertEqual(all_groves(net, count), right)
                        self.assertEqual(right, sorted(right))

    def test_limit_of_choices_comes_first(self):
        for count in range(5):
            self.assertEqual(raised(all_groves, fan(*[2] * 9), count), ("TooMany", "choices", 512, 400))

    def test_limit_of_groves(self):
        self.assertEqual(len(all_groves(fan(10, 10, 4), 1)), 400)
        self.assertEqual(raised(all_groves, fan(10, 10, 4), 2), ("TooMany", "groves", 400 * 399 // 2, 400))
        self.assertEqual(len(all_groves(fan(28), 2)), 378)
        self.assertEqual(raised(all_groves, fan(29), 2), ("TooMany", "groves", 406, 400))
        self.assertEqual(len(all_groves(fan(14), 3)), 364)
        self.assertEqual(raised(all_groves, fan(15), 3), ("TooMany", "groves", 455, 400))
        self.assertEqual(len(all_groves(fan(11), 4)), 330)
        self.assertEqual(raised(all_groves, fan(12), 4), ("TooMany", "groves", 495, 400))
        self.assertEqual(all_groves(fan(10, 10, 4), 0), [[]])

    def test_selections_with_common_lines_count(self):
        self.assertEqual(raised(all_groves, fan(29, 1), 2), ("TooMany", "groves", 406, 400))
        self.assertEqual(all_groves(fan(28, 1), 2), [])

    def test_count_out_of_range_comes_first(self):
        for count in [-1, 5, 10 ** 59]:
            for net in [fork(), alone(), fan(*[2] * 9)]:
                self.assertEqual(raised(all_groves, net, count), ("OutOfRange", "count", count))


class ResultsTest(unittest.TestCase):
    def test_new_results_and_unchanged_arguments(self):
        for net in [fork(), alone(), fan(4, 1), fan(5), mixed()]:
            for call, arguments in [(all_trees, []), (count_trees, [])] + [(all_groves, [k]) for k in range(5)]:
                told = unharmed(self, call, net, *arguments)
                self.assertEqual(told, call(remade(net), *arguments))


if __name__ == "__main__":
    unittest.main()
