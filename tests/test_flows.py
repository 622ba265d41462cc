import copy
import random
import unittest

from markshome.flows import (greatest_least_lot, has_ways, is_ways_paper, more_ways, most_ways, smallest_least_lot,
                             strength, unbroken_ways, way_count, weakest_lot)
from markshome.lots import lines_out
from markshome.nets import Net
from markshome.ways import is_ways
import samples
from samples import (KINDS, alone, chain, fork, large_net, mixed, plain_least_lots, plain_out, raised, random_net,
                     remade, unharmed)

NETS = [fork(), mixed(), Net("h", ["a"])] + [random_net(seed) for seed in range(80)]
HOUSE_CALLS = [most_ways, way_count, smallest_least_lot, greatest_least_lot,
               lambda net, house, **more: has_ways(net, house, 0, **more)]


def common_houses(lots):
    """The houses that are in all lots."""
    return sorted(set(lots[0]).intersection(*lots))


def joined_houses(lots):
    """The houses that are in at least one lot."""
    return sorted(set().union(*lots))


def cases():
    """Nets with a house that is not home and some broken lines."""
    for seed, net in enumerate(NETS):
        chance = random.Random(seed)
        for house in net.others:
            yield net, house, []
            yield net, house, [line for line in net.line_names if chance.random() < 0.3]


class MostWaysTest(unittest.TestCase):
    def test_fork(self):
        ways, lot = most_ways(fork(), "a")
        self.assertEqual((sorted(ways), lot), ([["ac", "cb", "bh"], ["ah"]], ["a"]))
        self.assertEqual(most_ways(fork(), "a", broken=["cb"]), ([["ah"]], ["a", "c"]))

    def test_against_all_lots(self):
        for net, house, broken in cases():
            told = most_ways(net, house, broken=broken)
            lots = plain_least_lots(net, house, broken)
            self.assertIsInstance(told, tuple)
            self.assertTrue(is_ways_paper(net - broken, house, told))
            self.assertEqual(told[1], common_houses(lots))
            self.assertEqual(len(told[0]), len(plain_out(net, lots[0], broken)))

    def test_no_way_at_all(self):
        self.assertEqual(most_ways(Net("h", ["a"]), "a"), ([], ["a"]))
        self.assertEqual(most_ways(mixed(), "d"), ([], ["d"]))
        self.assertEqual(most_ways(fork(), "c", broken=("ah", "bh", "ah")), ([], ["a", "b", "c"]))
        self.assertEqual(most_ways(fork(), "c", broken=fork().line_names), ([], ["c"]))

    def test_large_nets(self):
        for seed in range(6):
            net = large_net(seed)
            for house in net.others:
                paper = most_ways(net, house)
                self.assertTrue(is_ways_paper(net, house, paper))
                self.assertEqual(len(lines_out(net, paper[1])), way_count(net, house))

    def test_many_parallel_lines(self):
        net = Net("h", ["a"], [(f"l{k}", "a", "h") for k in range(30)])
        self.assertEqual(sorted(most_ways(net, "a")[0]), sorted([f"l{k}"] for k in range(30)))
        self.assertEqual((way_count(net, "a"), strength(net)), (30, 30))

    def test_a_line_must_be_given_back(self):
        # The shortest way crosses both ways of the only pair.
        lines = [("a", "s", "u"), ("b", "u", "v"), ("c", "v", "h"), ("d", "s", "w"), ("e", "w", "v"),
                 ("f", "u", "x"), ("g", "x", "h")]
        net = Net("h", ["s", "u", "v", "w", "x"], lines)
        self.assertEqual(way_count(net, "s"), 2)
        self.assertTrue(is_ways_paper(net, "s", most_ways(net, "s")))


class IsWaysPaperTest(unittest.TestCase):
    def test_every_least_lot_is_accepted(self):
        for net in NETS[:40]:
            for house in net.others:
                ways = most_ways(net, house)[0]
                lots = plain_least_lots(net, house)
                for lot in samples.plain_lots(net):
                    self.assertIs(is_ways_paper(net, house, (ways, lot)), lot in lots)

    def test_wrong_papers(self):
        ways = [["ah"], ["ac", "cb", "bh"]]
        self.assertIs(is_ways_paper(fork(), "a", (ways, ["a"])), True)
        self.assertIs(is_ways_paper(fork(), "a", (ways, ["a", "b", "c"])), True)
        for paper in [(ways, ["b"]), (ways, ["a", "b"]), (ways, ["c", "a"]), (ways, ["a", "a"]), (ways, []),
                      (ways, ["a", "h"]), (ways, ("a",)), (ways[:1], ["a"]), ([], ["a"]), (ways + [["ah"]], ["a"]),
                      (tuple(ways), ["a"]), [ways, ["a"]], (ways,), (ways, ["a"], None), (ways, None), (None, ["a"]),
                      (ways, [["a"]]), (ways, ["a", {}]), ([["ah"], []], ["a"]), ([["ah"], None], ["a"]),
                      (ways, "a"), ([["zz"], ["yy"]], ["a"]), (ways, ["a", "zz"])]:
            before = copy.deepcopy(paper)
            self.assertIs(is_ways_paper(fork(), "a", paper), False, repr(paper))
            self.assertEqual(paper, before)

    def test_every_kind(self):
        for value in KINDS:
            before = copy.deepcopy(value)
            self.assertIs(is_ways_paper(fork(), "a", value), False, repr(value))
            self.assertEqual(value, before)

    def test_errors(self):
        for paper in [([], ["a"]), None]:
            self.assertEqual(raised(is_ways_paper, fork(), "x", paper), ("UnknownHouse", "x"))
            self.assertEqual(raised(is_ways_paper, fork(), "h", paper), ("BadLot", "h"))


class CountTest(unittest.TestCase):
    def test_against_all_lots(self):
        for net, house, broken in cases():
            many = len(plain_out(net, plain_least_lots(net, house, broken)[0], broken))
            self.assertEqual(way_count(net, house, broken=broken), many)
            for count in range(5):
                self.assertIs(has_ways(net, house, count, broken=broken), many >= count)

    def test_repeats_and_tuples(self):
        self.assertEqual(way_count(fork(), "a", broken=("ah", "ah")), 1)
        self.assertIs(has_ways(fork(), "a", 2, broken=("ah", "ah")), False)
        self.assertIs(has_ways(fork(), "a", 1, broken=["ah", "ah"]), True)

    def test_count_out_of_range(self):
        for count in [-1, 5, 10 ** 59, -(10 ** 59)]:
            for house in ["a", "h", "x"]:
                told = raised(has_ways, fork(), house, count, broken=["zz"])
                self.assertEqual(told, ("OutOfRange", "count", count))


class LeastLotTest(unittest.TestCase):
    def test_fork(self):
        self.assertEqual(smallest_least_lot(fork(), "a"), ["a"])
        self.assertEqual(greatest_least_lot(fork(), "a"), ["a", "b", "c"])
        self.assertEqual(smallest_least_lot(fork(), "c", broken=["ah"]), ["a", "c"])

    def test_a_house_without_lines_is_in_the_greatest(self):
        net = Net("h", ["a", "b"], [("x", "a", "h")])
        self.assertEqual(smallest_least_lot(net, "a"), ["a"])
        self.assertEqual(greatest_least_lot(net, "a"), ["a", "b"])

    def test_against_all_lots(self):
        for net, house, broken in cases():
            lots = plain_least_lots(net, house, broken)
            self.assertEqual(smallest_least_lot(net, house, broken=broken), common_houses(lots))
            self.assertEqual(greatest_least_lot(net, house, broken=broken), joined_houses(lots))

    def test_large_nets(self):
        for seed in range(2):
            net = large_net(seed)
            lots = samples.plain_lots(net)
            for house in net.others[:3]:
                here = [lot for lot in lots if house in lot]
                many = {tuple(lot): len(plain_out(net, lot)) for lot in here}
                least = [list(lot) for lot in many if many[lot] == min(many.values())]
                self.assertEqual(smallest_least_lot(net, house), common_houses(least))
                self.assertEqual(greatest_least_lot(net, house), joined_houses(least))
                self.assertEqual(way_count(net, house), min(many.values()))


class ErrorsTest(unittest.TestCase):
    def test_order(self):
        for call in HOUSE_CALLS:
            self.assertEqual(raised(call, fork(), "x", broken=["zz"]), ("UnknownHouse", "x"))
            self.assertEqual(raised(call, fork(), "a", broken=["ah", "zz", "a"]), ("UnknownLine", "zz"))
            self.assertEqual(raised(call, fork(), "h", broken=["zz"]), ("UnknownLine", "zz"))
            self.assertEqual(raised(call, fork(), "h", broken=["ah"]), ("BadLot", "h"))
            self.assertEqual(raised(call, fork(), "h"), ("BadLot", "h"))
            self.assertEqual(raised(call, alone(), "h", broken=("zz",)), ("UnknownLine", "zz"))
            self.assertEqual(raised(call, alone(), "h"), ("BadLot", "h"))
            self.assertEqual(raised(call, Net("h", ["a"]), "a", broken=["a"]), ("UnknownLine", "a"))


class StrengthTest(unittest.TestCase):
    def test_samples(self):
        self.assertEqual([strength(net) for net in [fork(), mixed(), Net("h", ["a"]), chain(12)]], [2, 0, 0, 1])
        self.assertIsNone(strength(alone()))
        self.assertIsNone(strength(Net("h")))

    def test_against_all_lots(self):
        for net in NETS + [random_net(seed, 7, 20) for seed in range(20)]:
            self.assertEqual(strength(net), samples.plain_strength(net))

    def test_large_nets(self):
        for seed in range(4):
            self.assertEqual(strength(large_net(seed)), samples.plain_strength(large_net(seed)))

    def test_large_net_of_strength_two(self):
        names = ["h"] + [f"x{k:02}" for k in range(11)]
        lines = [(f"l{k:02}", names[k], names[k - 1]) for k in range(1, 12)]
        lines += [(f"m{k:02}", names[k], names[max(0, k - 2)]) for k in range(1, 12)]
        lines += [(f"n{k:02}", names[0], names[k]) for k in range(1, 9)]
        net = Net("h", names[1:], lines)
        self.assertEqual((len(net.houses), len(net.lines)), (12, 30))
        self.assertEqual((strength(net), weakest_lot(net)), (2, ["x00"]))

    def test_weakest_lot(self):
        self.assertEqual(weakest_lot(fork()), ["a"])
        self.assertEqual(weakest_lot(mixed()), ["d"])
        self.assertIsNone(weakest_lot(alone()))
        self.assertEqual(weakest_lot(Net("h", ["a", "b"], [("x", "a", "b"), ("y", "b", "a")])), ["a", "b"])

    def test_weakest_lot_of_every_net(self):
        for net in NETS + [large_net(seed) for seed in range(2)]:
            if net.others:
                counts = {house: way_count(net, house) for house in net.others}
                first = [house for house in net.others if counts[house] == min(counts.values())][0]
                self.assertEqual(weakest_lot(net), common_houses(plain_least_lots(net, first)))


class MoreWaysTest(unittest.TestCase):
    def test_one_way_more(self):
        for net in NETS:
            for house in net.others:
                most, lot = most_ways(net, house)
                for size in range(len(most)):
                    told = more_ways(net, house, most[:size])
                    self.assertIsInstance(told, tuple)
                    self.assertIsNone(told[1])
                    self.assertEqual(len(told[0]), size + 1)
                    self.assertTrue(is_ways(net, house, told[0]))
                self.assertEqual(more_ways(net, house, most), (None, lot))

    def test_a_list_whose_ways_block_the_others(self):
        lines = [("a", "s", "u"), ("b", "u", "v"), ("c", "v", "h"), ("d", "s", "v"), ("e", "u", "h")]
        net = Net("h", ["s", "u", "v"], lines)
        ways, lot = more_ways(net, "s", [["a", "b", "c"]])
        self.assertEqual((len(ways), lot), (2, None))
        self.assertTrue(is_ways(net, "s", ways))

    def test_no_ways(self):
        self.assertEqual(more_ways(mixed(), "d", []), (None, ["d"]))

    def test_unlike(self):
        for ways in [[[]], [["zz"]], [["bh"]], [["ah"], ["ah"]], [["ac"]], [["ah"], ["ac", "cb", "bh"], [""]]]:
            self.assertEqual(raised(more_ways, fork(), "a", ways), ("Unlike", "ways"))

    def test_order_of_errors(self):
        self.assertEqual(raised(more_ways, fork(), "x", [["zz"]]), ("UnknownHouse", "x"))
        self.assertEqual(raised(more_ways, fork(), "h", [["zz"]]), ("BadLot", "h"))
        self.assertEqual(raised(more_ways, alone(), "h", []), ("BadLot", "h"))


class UnbrokenWaysTest(unittest.TestCase):
    def test_keeps_the_order(self):
        ways = [["x", "y"], ["z"], [], ["w", "x"], ["v"], ["z"]]
        self.assertEqual(unbroken_ways(ways, ["x"]), [["z"], [], ["v"], ["z"]])
        self.assertEqual(unbroken_ways(ways, ["y", "y", "v", "no line"]), [["z"], [], ["w", "x"], ["z"]])
        self.assertEqual(unbroken_ways(ways, []), ways)
        self.assertEqual(unbroken_ways(ways, ["x", "y", "z", "w", "v"]), [[]])
        self.assertEqual(unbroken_ways([], ["x"]), [])

    def test_leaves_out_at_most_as_many_as_are_broken(self):
        for net, house, broken in cases():
            ways = most_ways(net, house)[0]
            self.assertGreaterEqual(len(unbroken_ways(ways, broken)), len(ways) - len(broken))

    def test_new_lists(self):
        way = ["v"]
        unharmed(self, unbroken_ways, [["x"], way, way], ["x"])


class ResultsTest(unittest.TestCase):
    def test_new_results_and_unchanged_arguments(self):
        ways = [["ac", "cb", "bh"]]
        for call, arguments in [(most_ways, ["c"]), (is_ways_paper, ["a", (ways, ["a"])]), (way_count, ["a"]),
                                (has_ways, ["a", 2]), (smallest_least_lot, ["a"]), (greatest_least_lot, ["a"]),
                                (strength, []), (weakest_lot, []), (more_ways, ["a", ways]),
                                (more_ways, ["a", ways + [["ah"]]])]:
            told = unharmed(self, call, fork(), *arguments)
            self.assertEqual(told, call(remade(fork()), *arguments))
        broken = ["cb", "ac", "cb"]
        for call, arguments in [(most_ways, ["c"]), (way_count, ["c"]), (has_ways, ["c", 1]),
                                (smallest_least_lot, ["c"]), (greatest_least_lot, ["c"])]:
            told = unharmed(self, call, fork(), *arguments, broken=broken)
            self.assertEqual(told, call(remade(fork()), *arguments, broken=broken))

    def test_equal_nets_give_equal_ways(self):
        for net in NETS + [large_net(seed) for seed in range(3)]:
            for house in net.others:
                self.assertEqual(most_ways(net, house), most_ways(remade(net), house))


if __name__ == "__main__":
    unittest.main()
