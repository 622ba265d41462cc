import copy
import itertools
import unittest

from markshome.lots import (all_lots, common_part, crossing, is_lot, joined, least_lots, lines_into, lines_out, lot_of,
                            plain_strength, weak_lots)
from markshome.nets import Net
import samples
from samples import KINDS, alone, chain, fork, mixed, raised, random_net, remade, unharmed

NETS = [fork(), mixed(), alone(), Net("h"), Net("h", ["a"])] + [random_net(seed) for seed in range(60)]
LOT_CALLS = [lot_of, lines_out, lines_into, lambda net, lot: crossing(net, lot, ["a"]),
             lambda net, lot: crossing(net, ["a"], lot)]


class IsLotTest(unittest.TestCase):
    def test_every_lot(self):
        for net in NETS:
            for lot in samples.plain_lots(net):
                self.assertIs(is_lot(net, lot), True)

    def test_other_lists(self):
        for value in [[], ["h"], ["a", "h"], ["h", "a"], ["b", "a"], ["a", "a"], ["a", "x"], ["ah"], ["a", ""],
                      ["a", None], ["a", ["b"]], [["a"]], [["a", "b"]], ["a", {"b": 1}], ["a", 1]]:
            before = copy.deepcopy(value)
            self.assertIs(is_lot(fork(), value), False, repr(value))
            self.assertEqual(value, before)

    def test_every_kind(self):
        for value in KINDS + [("a", "b"), {"a": 1, "b": 2}, "ab"]:
            before = copy.deepcopy(value)
            self.assertIs(is_lot(fork(), value), False, repr(value))
            self.assertIs(is_lot(alone(), value), False, repr(value))
            self.assertEqual(value, before)


class LotArgumentTest(unittest.TestCase):
    def test_any_order(self):
        for lot in itertools.permutations(["a", "b", "c"]):
            self.assertEqual(lot_of(fork(), list(lot)), ["a", "b", "c"])
        self.assertEqual(lines_out(fork(), ["c", "a"]), lines_out(fork(), ["a", "c"]))

    def test_duplicate(self):
        for call in LOT_CALLS:
            self.assertEqual(raised(call, fork(), ["a", "b", "b", "a"]), ("Duplicate", "b"))
            self.assertEqual(raised(call, fork(), ["x", "h", "a", "x"]), ("Duplicate", "x"))
            self.assertEqual(raised(call, fork(), ["h", "h"]), ("Duplicate", "h"))
            self.assertEqual(raised(call, fork(), ["A b", "A b"]), ("Duplicate", "A b"))

    def test_unknown_house(self):
        for call in LOT_CALLS:
            self.assertEqual(raised(call, fork(), ["a", "x", "y"]), ("UnknownHouse", "x"))
            self.assertEqual(raised(call, fork(), ["h", "ah"]), ("UnknownHouse", "ah"))
            self.assertEqual(raised(call, fork(), [""]), ("UnknownHouse", ""))

    def test_bad_lot(self):
        for call in LOT_CALLS:
            self.assertEqual(raised(call, fork(), []), ("BadLot", None))
            self.assertEqual(raised(call, fork(), ["h"]), ("BadLot", "h"))
            self.assertEqual(raised(call, fork(), ["a", "h"]), ("BadLot", "h"))
        for call in LOT_CALLS[:3]:
            self.assertEqual(raised(call, alone(), []), ("BadLot", None))
            self.assertEqual(raised(call, alone(), ["h"]), ("BadLot", "h"))

    def test_crossing_order_of_errors(self):
        for first, second, told in [
                (["h"], [], ("BadLot", "h")), ([], ["h"], ("BadLot", None)), (["a"], ["h"], ("BadLot", "h")),
                (["x"], ["a", "a"], ("Duplicate", "a")), ([], ["y", "y"], ("Duplicate", "y")),
                (["b", "b"], ["a", "a"], ("Duplicate", "b")), (["h"], ["y"], ("UnknownHouse", "y")),
                ([], ["y"], ("UnknownHouse", "y")), (["x"], ["y"], ("UnknownHouse", "x"))]:
            self.assertEqual(raised(crossing, fork(), first, second), told)


class LinesTest(unittest.TestCase):
    def test_fork(self):
        self.assertEqual(lines_out(fork(), ["a"]), ["ac", "ah"])
        self.assertEqual(lines_out(fork(), ["a", "c"]), ["ah", "cb"])
        self.assertEqual(lines_out(fork(), ["a", "b", "c"]), ["ah", "bh"])
        self.assertEqual(lines_into(fork(), ["c"]), ["ac", "bc"])
        self.assertEqual(lines_into(fork(), ["a", "b", "c"]), [])

    def test_loops_lines_out_of_home_and_houses_without_lines(self):
        self.assertEqual(lines_out(mixed(), ["a"]), ["a1", "a2", "ab"])
        self.assertEqual(lines_into(mixed(), ["a"]), ["ba", "ha"])
        self.assertEqual(lines_into(mixed(), ["a", "b"]), ["ha", "hb"])
        self.assertEqual(lines_out(mixed(), ["d"]), [])
        self.assertEqual(lines_into(mixed(), ["d"]), ["bd"])
        self.assertEqual(lines_out(Net("h", ["a"]), ["a"]), [])

    def test_every_lot(self):
        for net in NETS:
            for lot in samples.plain_lots(net):
                self.assertEqual(lines_out(net, lot), samples.plain_out(net, lot))
                self.assertEqual(lines_into(net, lot), [line for line in net.line_names
                                                        if net.tail(line) not in lot and net.head(line) in lot])


class SetsTest(unittest.TestCase):
    def test_common_part(self):
        self.assertEqual(common_part(["b", "a", "c", "b"], ["b", "d", "a"]), ["a", "b"])
        self.assertEqual(common_part(["a"], ["b"]), [])
        self.assertEqual(common_part([], []), [])
        self.assertEqual(common_part(["", "B c", "h"], ["B c", "", "B c"]), ["", "B c"])

    def test_joined(self):
        self.assertEqual(joined(["b", "a", "b"], ["c", "a"]), ["a", "b", "c"])
        self.assertEqual(joined([], []), [])
        self.assertEqual(joined([], ["B", "", "B"]), ["", "B"])

    def test_new_results(self):
        same = ["a", "b"]
        for first, second in [(same, same), ([], ["a"]), (["a"], []), ([], [])]:
            unharmed(self, common_part, first, second)
            unharmed(self, joined, first, second)


class CrossingTest(unittest.TestCase):
    def test_fork(self):
        self.assertEqual(crossing(fork(), ["a", "c"], ["c", "b"]), (2, 2, 2, 2, 0))
        self.assertEqual(crossing(fork(), ["a"], ["c"]), (2, 2, 0, 2, 2))
        self.assertEqual(crossing(fork(), ["a"], ["a"]), (2, 2, 2, 2, 0))
        self.assertEqual(crossing(fork(), ["a"], ["b", "a"]), (2, 4, 2, 4, 0))

    def test_mixed(self):
        self.assertEqual(crossing(mixed(), ["a"], ["b"]), (3, 3, 0, 4, 2))
        self.assertEqual(crossing(mixed(), ["a", "d"], ["b", "d"]), (3, 2, 0, 3, 2))

    def test_every_two_lots(self):
        for net in NETS[:30]:
            for first, second in itertools.product(samples.plain_lots(net), repeat=2):
                both = [house for house in first if house in second]
                join = sorted(set(first + second))
                across = [line for line in net.lines if {line[1], line[2]} <= set(join) - set(both)
                          and (line[1] in first) != (line[2] in first)]
                told = crossing(net, first, second)
                self.assertEqual(told, (len(samples.plain_out(net, first)), len(samples.plain_out(net, second)),
                                        len(samples.plain_out(net, both)), len(samples.plain_out(net, join)),
                                        len(across)))
                self.assertEqual(told[0] + told[1], told[2] + told[3] + told[4])
                self.assertIsInstance(told, tuple)


class AllLotsTest(unittest.TestCase):
    def test_order(self):
        self.assertEqual(all_lots(fork()), [["a"], ["b"], ["c"], ["a", "b"], ["a", "c"], ["b", "c"], ["a", "b", "c"]])

    def test_home_alone(self):
        self.assertEqual(all_lots(alone()), [])

    def test_every_net(self):
        for net in NETS:
            self.assertEqual(all_lots(net), samples.plain_lots(net))

    def test_nine_and_ten_houses(self):
        self.assertEqual(all_lots(chain(9)), samples.plain_lots(chain(9)))
        self.assertEqual(len(all_lots(chain(9))), 255)
        self.assertEqual(raised(all_lots, chain(10)), ("TooMany", "houses", 10, 9))
        self.assertEqual(raised(all_lots, chain(12)), ("TooMany", "houses", 12, 9))


class StrengthTest(unittest.TestCase):
    def test_samples(self):
        self.assertEqual([plain_strength(net) for net in [fork(), mixed(), Net("h", ["a"]), chain(9)]], [2, 0, 0, 1])
        self.assertIsNone(plain_strength(alone()))

    def test_every_net(self):
        for net in NETS:
            self.assertEqual(plain_strength(net), samples.plain_strength(net))

    def test_ten_houses(self):
        self.assertEqual(raised(plain_strength, chain(10)), ("TooMany", "houses", 10, 9))


class LeastLotsTest(unittest.TestCase):
    def test_fork(self):
        self.assertEqual(least_lots(fork(), "a"), [["a"], ["a", "c"], ["a", "b", "c"]])

    def test_house_without_lines(self):
        self.assertEqual(least_lots(mixed(), "d"), [["d"]])
        self.assertEqual(least_lots(mixed(), "b"), [["b", "d"]])

    def test_every_net(self):
        for net in NETS:
            for house in net.others:
                lots = least_lots(net, house)
                self.assertEqual(lots, samples.plain_least_lots(net, house))
                for first, second in itertools.product(lots, repeat=2):
                    self.assertIn(common_part(first, second), lots)
                    self.assertIn(joined(first, second), lots)

    def test_nine_houses(self):
        self.assertEqual(least_lots(chain(9), "n08")[-1], chain(9).others)
        self.assertEqual(len(least_lots(chain(9), "n08")), 8)

    def test_errors(self):
        self.assertEqual(raised(least_lots, chain(10), "zz"), ("TooMany", "houses", 10, 9))
        self.assertEqual(raised(least_lots, chain(10), "h"), ("TooMany", "houses", 10, 9))
        self.assertEqual(raised(least_lots, fork(), "ah"), ("UnknownHouse", "ah"))
        self.assertEqual(raised(least_lots, fork(), "h"), ("BadLot", "h"))
        self.assertEqual(raised(least_lots, alone(), "h"), ("BadLot", "h"))


class WeakLotsTest(unittest.TestCase):
    def test_samples(self):
        self.assertEqual(weak_lots(fork(), 2), [])
        self.assertEqual(weak_lots(fork(), 3), [["a"], ["b"], ["c"], ["a", "c"], ["b", "c"], ["a", "b", "c"]])
        self.assertEqual(weak_lots(mixed(), 1), [["d"]])
        self.assertEqual(weak_lots(alone(), 4), [])

    def test_every_net(self):
        for net in NETS:
            for count in range(5):
                self.assertEqual(weak_lots(net, count), [lot for lot in samples.plain_lots(net)
                                                         if len(samples.plain_out(net, lot)) < count])

    def test_errors(self):
        for count in [-1, 5, 10 ** 59, -(10 ** 59)]:
            for net in [fork(), alone(), chain(10)]:
                self.assertEqual(raised(weak_lots, net, count), ("OutOfRange", "count", count))
        for count in [0, 4]:
            self.assertEqual(raised(weak_lots, chain(10), count), ("TooMany", "houses", 10, 9))

    def test_nine_houses(self):
        self.assertEqual(weak_lots(chain(9), 0), [])
        self.assertEqual(len(weak_lots(chain(9), 2)), 36)


class ResultsTest(unittest.TestCase):
    def test_new_results_and_unchanged_arguments(self):
        lot = ["c", "a"]
        for call, arguments in [(is_lot, [["a", "c"]]), (lot_of, [lot]), (lines_out, [lot]), (lines_into, [lot]),
                                (crossing, [lot, lot]), (all_lots, []), (plain_strength, []), (least_lots, ["a"]),
                                (weak_lots, [3])]:
            told = unharmed(self, call, fork(), *arguments)
            self.assertEqual(told, call(remade(fork()), *arguments))

    def test_an_ascending_lot_is_not_returned_itself(self):
        unharmed(self, lot_of, fork(), ["a", "b"])


if __name__ == "__main__":
    unittest.main()
