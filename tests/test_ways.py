import copy
import itertools
import random
import unittest

from markshome.lots import is_lot, lines_out
from markshome.nets import Net
from markshome.ways import cut_off, distance, home_side, is_way, is_ways, shortest_way, way_houses
from samples import KINDS, alone, fork, large_net, mixed, plain_ways, raised, random_net, remade, unharmed

NETS = [fork(), mixed(), alone(), Net("h"), Net("h", ["a"])] + [random_net(seed) for seed in range(60)]
BROKEN_CALLS = [lambda net, broken: shortest_way(net, net.home, broken=broken),
                lambda net, broken: distance(net, net.home, broken=broken),
                lambda net, broken: home_side(net, broken=broken),
                lambda net, broken: cut_off(net, broken=broken)]


def damages(net, seed):
    """Some lists of broken lines of the net."""
    chance = random.Random(seed)
    return [[], net.line_names] + [[line for line in net.line_names if chance.random() < 0.4] for _ in range(4)]


class IsWayTest(unittest.TestCase):
    def test_fork(self):
        self.assertEqual([way for way in itertools.chain(*[itertools.permutations(fork().line_names, size)
                                                           for size in range(5)]) if is_way(fork(), "a", list(way))],
                         [("ah",), ("ac", "cb", "bh")])

    def test_every_way_of_every_net(self):
        for net in NETS:
            for house in net.houses:
                right = plain_ways(net, house)
                for way in right:
                    self.assertIs(is_way(net, house, way), True)
                for size in range(4):
                    for way in itertools.islice(itertools.product(net.line_names, repeat=size), 300):
                        self.assertIs(is_way(net, house, list(way)), list(way) in right)

    def test_wrong_lists(self):
        net = mixed()
        for way in [[], ["bh"], ["ab"], ["ab", "ba", "a1"], ["aa", "a1"], ["a1", "hh"], ["a1", "ha", "a2"],
                    ["a1", "a2"], ["a1", "a1"], ["zz"], ["a1", "zz"], ["ab", "bd"], ["h"], [""], ["a1", ""],
                    [None], [["a1"]], ["ab", {"bh": 1}], ["ab", ["bh"]], ["ab", True], ["ab", "bh", None]]:
            before = copy.deepcopy(way)
            self.assertIs(is_way(net, "a", way), False, repr(way))
            self.assertEqual(way, before)
        for way in [["a1"], ["ab", "bh"]]:
            self.assertIs(is_way(net, "a", way), True)

    def test_from_home(self):
        for net in [mixed(), alone()]:
            self.assertIs(is_way(net, "h", []), True)
        for way in [["hh"], ["ha", "a1"], ["hh", "hh"], ["a1"]]:
            self.assertIs(is_way(mixed(), "h", way), False)
        self.assertIs(is_way(alone(), "h", ["l1"]), False)

    def test_every_kind(self):
        for value in KINDS + [("a1",), "a1", {"a1": 1}]:
            before = copy.deepcopy(value)
            self.assertIs(is_way(mixed(), "a", value), False, repr(value))
            self.assertIs(is_way(mixed(), "h", value), False, repr(value))
            self.assertEqual(value, before)

    def test_errors(self):
        for way in [["a1"], [], None, [{}]]:
            self.assertEqual(raised(is_way, mixed(), "a1", way), ("UnknownHouse", "a1"))


class IsWaysTest(unittest.TestCase):
    def test_right_lists(self):
        for ways in [[], [["a1"]], [["a1"], ["a2"]], [["a2"], ["ab", "bh"], ["a1"]], [["ab", "bh"]]]:
            self.assertIs(is_ways(mixed(), "a", ways), True, repr(ways))

    def test_wrong_lists(self):
        for ways in [[[]], [["a1"], []], [["a1"], ["a1"]], [["ba", "a1"]], [["a1"], ["ab"]], ["a1"], [("a1",)],
                     [["a1"], None], [["a1"], {"a2": 1}], [["a1"], [["a2"]]], [[None]], ["a", "b"], [""]]:
            before = copy.deepcopy(ways)
            self.assertIs(is_ways(mixed(), "a", ways), False, repr(ways))
            self.assertEqual(ways, before)

    def test_one_common_line(self):
        net = Net("h", ["a", "b"], [("x", "a", "b"), ("y", "a", "b"), ("z", "b", "h"), ("w", "b", "h")])
        self.assertIs(is_ways(net, "a", [["x", "z"], ["y", "w"]]), True)
        self.assertIs(is_ways(net, "a", [["x", "z"], ["y", "z"]]), False)
        self.assertIs(is_ways(net, "a", [["x", "z"], ["x", "w"]]), False)

    def test_every_kind(self):
        for value in KINDS + [(["a1"],), "a1", {"a1": ["a1"]}]:
            before = copy.deepcopy(value)
            self.assertIs(is_ways(mixed(), "a", value), value == [] and isinstance(value, list), repr(value))
            self.assertEqual(value, before)

    def test_errors(self):
        for ways in [[], [["a1"]], None]:
            self.assertEqual(raised(is_ways, mixed(), "x", ways), ("UnknownHouse", "x"))
            self.assertEqual(raised(is_ways, mixed(), "h", ways), ("BadLot", "h"))
            self.assertEqual(raised(is_ways, alone(), "h", ways), ("BadLot", "h"))


class WayHousesTest(unittest.TestCase):
    def test_right_ways(self):
        self.assertEqual(way_houses(fork(), "a", ["ac", "cb", "bh"]), ["a", "c", "b", "h"])
        self.assertEqual(way_houses(fork(), "a", ["ah"]), ["a", "h"])
        self.assertEqual(way_houses(mixed(), "h", []), ["h"])
        self.assertEqual(way_houses(alone(), "h", []), ["h"])

    def test_unlike(self):
        for house, way in [("a", []), ("a", ["bh"]), ("a", ["ac"]), ("a", ["ac", "ca", "ah"]), ("a", ["zz"]),
                           ("a", ["ah", "zz"]), ("a", [""]), ("h", ["ah"]), ("b", ["ah"])]:
            self.assertEqual(raised(way_houses, fork(), house, way), ("Unlike", "way"))
        self.assertEqual(raised(way_houses, alone(), "h", ["l1"]), ("Unlike", "way"))

    def test_unknown_house_first(self):
        self.assertEqual(raised(way_houses, fork(), "x", ["zz"]), ("UnknownHouse", "x"))


class ShortestWayTest(unittest.TestCase):
    def test_fork(self):
        self.assertEqual(shortest_way(fork(), "c"), ["ca", "ah"])
        self.assertEqual(shortest_way(fork(), "c", broken=["ca"]), ["cb", "bh"])
        self.assertEqual(shortest_way(fork(), "a", broken=("ah",)), ["ac", "cb", "bh"])
        self.assertIsNone(shortest_way(fork(), "a", broken=["ah", "bh", "ah"]))

    def test_fewest_lines_ahead_of_small_names(self):
        net = Net("h", ["a", "b"], [("a1", "a", "b"), ("a2", "b", "h"), ("z", "a", "h")])
        self.assertEqual(shortest_way(net, "a"), ["z"])
        self.assertEqual(distance(net, "a"), 1)

    def test_smallest_of_the_shortest(self):
        lines = [("b1", "a", "c"), ("b2", "a", "b"), ("a2", "b", "h"), ("z2", "c", "h"), ("z1", "c", "h")]
        self.assertEqual(shortest_way(Net("h", ["a", "b", "c"], lines), "a"), ["b1", "z1"])

    def test_every_net(self):
        for seed, net in enumerate(NETS + [random_net(seed, 7, 16) for seed in range(40)]):
            for broken in damages(net, seed):
                for house in net.houses:
                    ways = sorted(plain_ways(net, house, broken), key=lambda way: (len(way), way))
                    told = shortest_way(net, house, broken=broken)
                    self.assertEqual(told, ways[0] if ways else None)
                    self.assertEqual(distance(net, house, broken=broken), len(ways[0]) if ways else None)

    def test_a_long_way_that_is_met_first(self):
        for names in itertools.permutations(["p", "q", "r", "s", "t"]):
            ends = [("a", "h"), ("b", "h"), ("c", "b"), ("d", "c"), ("d", "a")]
            net = Net("h", ["a", "b", "c", "d"], [(name, *pair) for name, pair in zip(names, ends)])
            self.assertEqual(distance(net, "d"), 2)
            self.assertEqual(shortest_way(net, "d"), [names[4], names[0]])

    def test_from_home(self):
        for net in [fork(), mixed(), alone()]:
            self.assertEqual(shortest_way(net, "h", broken=net.line_names), [])
            self.assertEqual(distance(net, "h", broken=net.line_names), 0)
            self.assertEqual(shortest_way(net, "h"), [])

    def test_no_way_at_all(self):
        self.assertIsNone(shortest_way(mixed(), "d"))
        self.assertIsNone(distance(mixed(), "d"))
        self.assertIsNone(distance(Net("h", ["a"], [("x", "a", "a"), ("y", "h", "a")]), "a"))

    def test_errors(self):
        for call in [shortest_way, distance]:
            self.assertEqual(raised(call, fork(), "x", broken=["zz"]), ("UnknownHouse", "x"))
            self.assertEqual(raised(call, fork(), "a", broken=["ah", "zz", "a"]), ("UnknownLine", "zz"))
            self.assertEqual(raised(call, fork(), "ah"), ("UnknownHouse", "ah"))


class BrokenTest(unittest.TestCase):
    def test_lists_tuples_and_repeats(self):
        net = mixed()
        for call in BROKEN_CALLS + [lambda net, broken: shortest_way(net, "a", broken=broken),
                                    lambda net, broken: distance(net, "b", broken=broken)]:
            told = call(net, ["a1", "bh", "hh"])
            for broken in [("hh", "bh", "a1"), ["bh", "a1", "hh", "bh"], ("a1", "a1", "bh", "hh", "aa")]:
                self.assertEqual(call(net, broken), told)

    def test_unknown_line(self):
        for call in BROKEN_CALLS:
            for net in [fork(), mixed(), alone()]:
                self.assertEqual(raised(call, net, ["zz"]), ("UnknownLine", "zz"))
                self.assertEqual(raised(call, net, (net.line_names[0], "yy", "zz")), ("UnknownLine", "yy"))


class SidesTest(unittest.TestCase):
    def test_samples(self):
        self.assertEqual(home_side(fork()), ["a", "b", "c", "h"])
        self.assertEqual(cut_off(fork()), [])
        self.assertEqual(home_side(mixed()), ["a", "b", "h"])
        self.assertEqual(cut_off(mixed()), ["d"])
        self.assertEqual(home_side(fork(), broken=["ah", "bh"]), ["h"])
        self.assertEqual(cut_off(fork(), broken=("ah", "bh")), ["a", "b", "c"])
        self.assertEqual(home_side(fork(), broken=["cb", "ac", "ah"]), ["b", "h"])
        self.assertEqual((home_side(alone()), cut_off(alone())), (["h"], []))

    def test_every_net(self):
        for seed, net in enumerate(NETS):
            for broken in damages(net, seed):
                inside = [house for house in net.houses if plain_ways(net, house, broken)]
                away = cut_off(net, broken=broken)
                self.assertEqual(home_side(net, broken=broken), inside)
                self.assertEqual(away, [house for house in net.houses if house not in inside])
                if away:
                    self.assertTrue(is_lot(net, away))
                    self.assertTrue(set(lines_out(net, away)) <= set(broken))

    def test_large_nets(self):
        for seed in range(5):
            net = large_net(seed)
            for house in net.houses:
                way = shortest_way(net, house)
                self.assertEqual(way is None, house in cut_off(net))
                self.assertTrue(way is None or is_way(net, house, way))


class ResultsTest(unittest.TestCase):
    def test_new_results_and_unchanged_arguments(self):
        way, ways = ["ac", "cb", "bh"], [["ah"], ["ac", "cb", "bh"]]
        for call, arguments in [(is_way, ["a", way]), (is_ways, ["a", ways]), (way_houses, ["a", way]),
                                (shortest_way, ["c"]), (shortest_way, ["h"]), (distance, ["c"]), (home_side, []),
                                (cut_off, [])]:
            told = unharmed(self, call, fork(), *arguments)
            self.assertEqual(told, call(remade(fork()), *arguments))
        broken = ["cb", "ac", "cb"]
        for call, arguments in [(shortest_way, ["c"]), (distance, ["c"]), (home_side, []), (cut_off, [])]:
            told = unharmed(self, call, fork(), *arguments, broken=broken)
            self.assertEqual(told, call(remade(fork()), *arguments, broken=broken))


if __name__ == "__main__":
    unittest.main()
