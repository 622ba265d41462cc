import copy
import itertools
import random
import unittest

from markshome.builder import build
from markshome.marks import table_of
from markshome.nets import Net
from markshome.pairs import (all_pair_damages, first_pair_stop, is_pairing, pair_limit, two_way_net, with_partners)
from markshome.stops import is_stop
from markshome.tables import Table
from samples import (KINDS, alone, fork, mixed, plain_run, plain_strength, raised, random_net, random_table, remade,
                     strong_net, unharmed)

WRONG = Table(2, [("a", 1, "bh", None)])


def plain_pairs(net):
    """All tuples of two lines that may be a pair of their own."""
    return [(one[0], two[0]) for one, two in itertools.combinations(net.lines, 2)
            if one[1] == two[2] and one[2] == two[1]]


def pairing(net):
    """A pairing of the net with as many of the first pairs as fit."""
    found = []
    for pair in plain_pairs(net):
        if not set(pair) & set(line for other in found for line in other):
            found.append(pair)
    return found


def square():
    """A two-way net of four houses, with an edge from a house to itself."""
    return two_way_net("h", ["c", "a", "b"], [("p", "a", "h"), ("m", "a", "b"), ("k", "b", "h"), ("n", "b", "c"),
                                              ("o", "c", "h"), ("l", "c", "c")])


def random_two_way(seed):
    """A two-way net with edges by chance, and its pairing."""
    chance = random.Random(seed)
    others = [f"x{k}" for k in range(1 + seed % 4)]
    edges = [(f"e{k}", chance.choice(others), chance.choice(["h"] + others)) for k in range(chance.randint(1, 7))]
    return two_way_net("h", others, edges)


def many_pairs(number):
    """A net with so many pairs of loops at home."""
    lines = [(f"l{k:02}", "h", "h") for k in range(2 * number)]
    names = [line[0] for line in lines]
    return Net("h", [], lines), list(zip(names[::2], names[1::2]))


class IsPairingTest(unittest.TestCase):
    def test_right_pairings(self):
        net, pairs = square()
        for size in range(len(pairs) + 1):
            for chosen in itertools.combinations(pairs, size):
                self.assertIs(is_pairing(net, list(chosen)), True)
        for net in (fork(), mixed(), alone()):
            self.assertIs(is_pairing(net, []), True)
        self.assertIs(is_pairing(fork(), [("ac", "ca"), ("bc", "cb")]), True)
        self.assertIs(is_pairing(alone(), [("l1", "l2")]), True)
        self.assertIs(is_pairing(mixed(), [("a1", "ha"), ("ab", "ba"), ("bh", "hb")]), True)

    def test_against_all_rules(self):
        for seed in range(40):
            net = random_net(seed, 3, 7)
            right = plain_pairs(net)
            names = net.line_names + ["zz"]
            for one, two in itertools.product(names, names):
                self.assertIs(is_pairing(net, [(one, two)]), (one, two) in right)
            for pairs in itertools.product(right, right):
                good = pairs[0] < pairs[1] and not set(pairs[0]) & set(pairs[1])
                self.assertIs(is_pairing(net, list(pairs)), good)

    def test_wrong_pairings(self):
        wrong = [[("ca", "ac")], [("ac", "ac")], [("bc", "cb"), ("ac", "ca")], [("ac", "ca"), ("ac", "ca")],
                 [("ac", "cb")], [("ac", "zz")], [("a", "b")], [("ac", "ca"), ("bc", "ca")], [("ac",)], [("ac", "ca", "x")],
                 [["ac", "ca"]], (("ac", "ca"),), [("ac", ["ca"])], [("ac", None)], [(True, False)], [(0, 1)],
                 [("ac", "ca"), None], {"ac": "ca"}, [({}, "ca")], [((), ())], ("ac", "ca"), [("ah", "bh")]]
        for pairs in wrong:
            before = copy.deepcopy(pairs)
            self.assertIs(is_pairing(fork(), pairs), False, pairs)
            self.assertEqual(pairs, before)
        self.assertIs(is_pairing(mixed(), [("aa", "aa")]), False)
        self.assertIs(is_pairing(mixed(), [("a1", "a2")]), False)
        self.assertIs(is_pairing(mixed(), [("aa", "hh")]), False)

    def test_every_kind(self):
        for value in KINDS:
            for pairs in [value, [value], [(value, value)], [("ac", value)]]:
                before = copy.deepcopy(pairs)
                self.assertIs(is_pairing(fork(), pairs), False, repr(pairs))
                self.assertEqual(pairs, before)


class BadPairTest(unittest.TestCase):
    CALLS = [lambda net, pairs: with_partners(net, pairs, []), lambda net, pairs: all_pair_damages(net, pairs, 1),
             lambda net, pairs: first_pair_stop(net, Table(0), pairs, 0)]

    def test_each_rule(self):
        for call in self.CALLS:
            for pairs, index in [([("ca", "ac")], 0), ([("ac", "ac")], 0), ([("ac", "zz")], 0), ([("zz", "ac")], 0),
                                 ([("A", "")], 0), ([("ac", "bc")], 0), ([("ah", "bh")], 0), ([("ac", "ca"), ("ac", "ca")], 1),
                                 ([("bc", "cb"), ("ac", "ca"), ("zz", "y")], 1), ([("ac", "ca"), ("bc", "cb"), ("ca", "ac")], 2)]:
                self.assertEqual(raised(call, fork(), pairs), ("BadPair",) + pairs[index])

    def test_unknown_lines(self):
        for call in self.CALLS:
            for pair in [("aa", "ac"), ("ac", "zz"), ("aa", "zz"), ("", "ac"), ("a", "c")]:
                self.assertEqual(raised(call, fork(), [pair]), ("BadPair",) + pair)
                self.assertIs(is_pairing(fork(), [pair]), False)

    def test_the_tuple_ahead_counts(self):
        net, pairs = square()
        for call in self.CALLS:
            self.assertEqual(raised(call, net, [pairs[0], pairs[2], pairs[1]]), ("BadPair",) + pairs[1])
            self.assertEqual(raised(call, net, [pairs[0], pairs[3], pairs[5], pairs[4]]), ("BadPair",) + pairs[4])
        self.assertIs(is_pairing(net, [pairs[0], pairs[2], pairs[1]]), False)

    def test_a_line_in_two_tuples(self):
        net = Net("h", ["a"], [("p", "a", "h"), ("q", "h", "a"), ("r", "a", "h"), ("s", "h", "a")])
        for call in self.CALLS:
            self.assertIsNone(raised(call, net, [("p", "q"), ("r", "s")]))
            self.assertIsNone(raised(call, net, [("p", "s"), ("q", "r")]))
            self.assertEqual(raised(call, net, [("p", "q"), ("p", "s")]), ("BadPair", "p", "s"))
            self.assertEqual(raised(call, net, [("p", "q"), ("q", "r")]), ("BadPair", "q", "r"))
            self.assertEqual(raised(call, net, [("r", "s"), ("p", "q")]), ("BadPair", "p", "q"))
            self.assertEqual(raised(call, net, [("p", "s"), ("r", "s")]), ("BadPair", "r", "s"))

    def test_loops(self):
        for call in self.CALLS:
            self.assertIsNone(raised(call, alone(), [("l1", "l2")]))
            self.assertEqual(raised(call, alone(), [("l1", "l1")]), ("BadPair", "l1", "l1"))
            self.assertEqual(raised(call, mixed(), [("aa", "hh")]), ("BadPair", "aa", "hh"))


class TwoWayTest(unittest.TestCase):
    def test_square(self):
        net, pairs = square()
        self.assertEqual(net.houses, ["a", "b", "c", "h"])
        self.assertEqual(net.lines, [("kb", "h", "b"), ("kf", "b", "h"), ("lb", "c", "c"), ("lf", "c", "c"),
                                     ("mb", "b", "a"), ("mf", "a", "b"), ("nb", "c", "b"), ("nf", "b", "c"),
                                     ("ob", "h", "c"), ("of", "c", "h"), ("pb", "h", "a"), ("pf", "a", "h")])
        self.assertEqual(pairs, [("kb", "kf"), ("lb", "lf"), ("mb", "mf"), ("nb", "nf"), ("ob", "of"), ("pb", "pf")])
        self.assertIs(is_pairing(net, pairs), True)

    def test_small(self):
        self.assertEqual(two_way_net("h", [], []), (Net("h"), []))
        self.assertEqual(two_way_net("h", [], [("e", "h", "h")]),
                         (Net("h", [], [("ef", "h", "h"), ("eb", "h", "h")]), [("eb", "ef")]))
        net, pairs = two_way_net("h", ["a"], [("xf", "a", "h"), ("x", "a", "h"), ("abcdefg", "h", "a")])
        self.assertEqual(pairs, [("abcdefgb", "abcdefgf"), ("xb", "xf"), ("xfb", "xff")])
        self.assertEqual(net.line_names, ["abcdefgb", "abcdefgf", "xb", "xf", "xfb", "xff"])

    def test_the_limits(self):
        houses = [f"a{k}" for k in range(11)]
        edges = [(f"e{k}", "a0", "h") for k in range(15)]
        net, pairs = two_way_net("h", houses, edges)
        self.assertEqual((len(net.houses), len(net.lines), len(pairs)), (12, 30, 15))
        self.assertEqual(raised(two_way_net, "h", houses + ["a0"], edges * 2), ("TooMany", "houses", 13, 12))
        self.assertEqual(raised(two_way_net, "h", houses + ["h"], [("e", "z", "z")]), ("TooMany", "houses", 13, 12))
        self.assertEqual(raised(two_way_net, "h", ["h", "h"], edges + edges[:1]), ("TooMany", "lines", 32, 30))
        self.assertEqual(raised(two_way_net, "h", [], [("e", "z", "z")] * 16), ("TooMany", "lines", 32, 30))

    def test_names(self):
        self.assertEqual(raised(two_way_net, "H", ["A"], [("E", "", "")]), ("BadName", "H"))
        self.assertEqual(raised(two_way_net, "h", ["a", "A"] * 20, [("E", "", "")]), ("BadName", "A"))
        self.assertEqual(raised(two_way_net, "h", ["a"], [("e", "a", "h"), ("E", "X", "Y")]), ("BadName", "E"))
        self.assertEqual(raised(two_way_net, "h", ["a"], [("e", "X", "Y"), ("E", "a", "h")]), ("BadName", "X"))
        self.assertEqual(raised(two_way_net, "h", ["a"], [("e", "z", "Y")] * 20), ("BadName", "Y"))
        self.assertEqual(raised(two_way_net, "h", ["a"], [("", "a", "h")]), ("BadName", ""))
        self.assertEqual(raised(two_way_net, "h", ["a"], [("abcdefgh", "a", "h")]), ("BadName", "abcdefgh"))
        self.assertEqual(raised(two_way_net, "h", ["a"], [("abcdefgh", "A", "h")]), ("BadName", "abcdefgh"))
        self.assertEqual(raised(two_way_net, "h", ["a"], [("e", "A", "h"), ("abcdefgh", "a", "h")]), ("BadName", "A"))
        self.assertEqual(raised(two_way_net, "h", ["a"], [("abcdefghi", "a", "h")]), ("BadName", "abcdefghi"))
        self.assertEqual(raised(two_way_net, "hhhhhhhh", ["aaaaaaaa"], [("e", "aaaaaaaa", "hhhhhhhh")]), None)

    def test_repeats_and_unknown_houses(self):
        self.assertEqual(raised(two_way_net, "h", ["a", "h", "a"], [("e", "z", "z")] * 2), ("Duplicate", "h"))
        self.assertEqual(raised(two_way_net, "h", ["a", "b", "a"], [("e", "z", "z")] * 2), ("Duplicate", "a"))
        self.assertEqual(raised(two_way_net, "h", ["a"], [("e", "z", "z"), ("f", "a", "h"), ("f", "a", "h"),
                                                           ("e", "a", "h")]), ("Duplicate", "f"))
        self.assertEqual(raised(two_way_net, "h", ["a"], [("e", "a", "h"), ("f", "y", "z")]), ("UnknownHouse", "y"))
        self.assertEqual(raised(two_way_net, "h", ["a"], [("e", "a", "x"), ("f", "y", "z")]), ("UnknownHouse", "x"))
        self.assertEqual(raised(two_way_net, "h", [], [("e", "e", "h")]), ("UnknownHouse", "e"))


class PartnersTest(unittest.TestCase):
    def test_square(self):
        net, pairs = square()
        self.assertEqual(with_partners(net, pairs, ["pf", "kb", "pf"]), ["kb", "kf", "pb", "pf"])
        self.assertEqual(with_partners(net, pairs[:1], ["pf", "kb"]), ["kb", "kf", "pf"])
        self.assertEqual(with_partners(net, pairs, ["lf", "lb"]), ["lb", "lf"])
        self.assertEqual(with_partners(net, pairs, []), [])
        self.assertEqual(with_partners(net, [], ["pf", "kf"]), ["kf", "pf"])

    def test_by_definition(self):
        for seed in range(40):
            net = random_net(seed, 3, 8)
            pairs = pairing(net)
            for size in range(3):
                for broken in itertools.permutations(net.line_names, size):
                    more = [line for pair in pairs for line in pair if set(pair) & set(broken)]
                    self.assertEqual(with_partners(net, pairs, list(broken)), sorted(set(more) | set(broken)))

    def test_errors(self):
        self.assertEqual(raised(with_partners, fork(), [("zz", "ac")], ["ah", "y", "z"]), ("UnknownLine", "y"))
        self.assertEqual(raised(with_partners, fork(), [("zz", "ac")], ["ah"]), ("BadPair", "zz", "ac"))
        self.assertEqual(raised(with_partners, fork(), [("zz", "zz")], []), ("BadPair", "zz", "zz"))


class LimitTest(unittest.TestCase):
    def test_every_count(self):
        self.assertEqual([pair_limit(count) for count in (1, 2, 3, 4)], [0, 0, 1, 1])
        for count in (0, -1, 5, 10 ** 59):
            self.assertEqual(raised(pair_limit, count), ("OutOfRange", "count", count))


class DamagesTest(unittest.TestCase):
    def test_square(self):
        net, pairs = square()
        self.assertEqual(all_pair_damages(net, pairs[:3], 2),
                         [[], ["kb", "kf"], ["lb", "lf"], ["mb", "mf"], ["kb", "kf", "lb", "lf"],
                          ["kb", "kf", "mb", "mf"], ["lb", "lf", "mb", "mf"]])
        self.assertEqual(all_pair_damages(net, pairs, 0), [[]])
        self.assertEqual(all_pair_damages(net, [], 30), [[]])
        self.assertEqual(len(all_pair_damages(net, pairs, 30)), 64)

    def test_the_order_is_that_of_the_pairs(self):
        net = Net("h", ["a"], [("p", "a", "h"), ("q", "a", "h"), ("r", "h", "a"), ("s", "h", "a")])
        self.assertEqual(all_pair_damages(net, [("p", "s"), ("q", "r")], 2), [[], ["p", "s"], ["q", "r"],
                                                                            ["p", "q", "r", "s"]])

    def test_the_limit(self):
        net, pairs = many_pairs(15)
        self.assertEqual(len(all_pair_damages(net, pairs, 2)), 121)
        self.assertEqual(raised(all_pair_damages, net, pairs, 3), ("TooMany", "damages", 576, 200))
        self.assertEqual(raised(all_pair_damages, net, pairs, 30), ("TooMany", "damages", 2 ** 15, 200))
        # The limit is reckoned from the number of tuples, right or not.
        wrong = [("zz", "ac")] * 20
        self.assertEqual(raised(all_pair_damages, fork(), wrong, 2), ("TooMany", "damages", 211, 200))
        self.assertEqual(raised(first_pair_stop, fork(), WRONG, wrong, 2), ("TooMany", "damages", 211, 200))
        self.assertEqual(raised(all_pair_damages, fork(), wrong[:19], 2), ("BadPair", "zz", "ac"))
        self.assertEqual(raised(first_pair_stop, fork(), WRONG, wrong[:19], 2), ("BadPair", "zz", "ac"))
        for most in (-1, 31, 10 ** 59):
            self.assertEqual(raised(all_pair_damages, fork(), wrong, most), ("OutOfRange", "most", most))
            self.assertEqual(raised(first_pair_stop, fork(), WRONG, wrong, most), ("OutOfRange", "most", most))

    def test_the_limit_on_all_damages_is_not_checked(self):
        net, pairs = many_pairs(15)
        self.assertEqual(all_pair_damages(net, pairs[:1], 30), [[], ["l00", "l01"]])
        self.assertIsNone(first_pair_stop(net, Table(1), pairs[:2], 30))


class StopTest(unittest.TestCase):
    def test_square(self):
        net, pairs = square()
        self.assertEqual(plain_strength(net), 2)
        table = table_of(net, build(net, 2)[0])
        self.assertIsNone(first_pair_stop(net, table, pairs, 1))
        damage, house = first_pair_stop(net, table, pairs, 2)
        self.assertIs(is_stop(net, table, (damage, house)), True)
        self.assertEqual(first_pair_stop(net, Table(0), pairs, 0), ([], "a"))

    def test_against_all_runs(self):
        met = set()
        for seed in range(80):
            net, pairs = random_two_way(seed)
            if seed % 4 == 0:
                net = strong_net(seed, 1 + seed % 3, 2, 2)
                pairs = pairing(net)
            count = min(4, plain_strength(net))
            table = random_table(net, seed) if seed % 3 == 0 else table_of(net, build(net, count)[0])
            for most in (0, 1, 2):
                told = None
                for size in range(most + 1):
                    for chosen in itertools.combinations(pairs, size):
                        damage = sorted(line for pair in chosen for line in pair)
                        lost = [house for house in net.others
                                if plain_run(net, table, house, 0, damage)[2] != "home"]
                        if lost and told is None:
                            told = (damage, lost[0])
                self.assertEqual(first_pair_stop(net, table, pairs, most), told)
                met.add(None if told is None else len(told[0]))
        self.assertEqual(met, {None, 0, 2, 4})

    def test_two_trees_bear_one_pair(self):
        for seed in range(60):
            net = strong_net(seed, 1 + seed % 4, 2 + seed % 2, 1)
            for count in range(2, min(4, plain_strength(net)) + 1):
                table = table_of(net, build(net, count)[0])
                self.assertIsNone(first_pair_stop(net, table, pairing(net), max(pair_limit(count), 1)))

    def test_home_alone(self):
        net, pairs = many_pairs(3)
        self.assertIsNone(first_pair_stop(net, Table(0), pairs, 3))
        self.assertEqual(raised(first_pair_stop, net, WRONG, pairs, 3), ("BadTable", "a", 1))
        self.assertEqual(raised(first_pair_stop, fork(), WRONG, [], 0), ("BadTable", "a", 1))


class FreshTest(unittest.TestCase):
    def test_arguments_and_results(self):
        edges = [("p", "a", "h"), ("m", "a", "b"), ("k", "b", "h")]
        before = copy.deepcopy(edges)
        first = two_way_net("h", ["b", "a"], edges)
        first[1].append("spoilt")
        second = two_way_net("h", ["b", "a"], edges)
        self.assertEqual(second, (first[0], [("kb", "kf"), ("mb", "mf"), ("pb", "pf")]))
        self.assertEqual(edges, before)
        for seed in range(40):
            net = strong_net(seed, 1 + seed % 4, 1 + seed % 2, 2)
            pairs = pairing(net)
            table = random_table(net, seed)
            again = Table(table.marks, tuple(reversed(table.entries)))
            broken = net.line_names[::-2]
            self.assertEqual(unharmed(self, with_partners, net, pairs, broken),
                             with_partners(remade(net), list(pairs), list(broken)))
            self.assertEqual(unharmed(self, all_pair_damages, net, pairs, 1), all_pair_damages(remade(net), pairs, 1))
            self.assertEqual(unharmed(self, first_pair_stop, net, table, pairs, 2),
                             first_pair_stop(remade(net), again, list(pairs), 2))
            unharmed(self, is_pairing, net, pairs)
            unharmed(self, pair_limit, 1 + seed % 4)


if __name__ == "__main__":
    unittest.main()
