import copy
import itertools
import random
import unittest

from markshome.flows import strength
from markshome.nets import Net
from markshome.wanting import is_wants, strengthen, wants
from samples import (KINDS, alone, chain, fork, large_net, mixed, plain_lots, plain_out, plain_strength, raised,
                     random_net, remade, strong_net, unharmed)


def row():
    """The net of the interface's example."""
    return Net("h", ["a", "b"], [("x", "a", "h"), ("y", "b", "a")])


def plain_wants(net, count):
    """The wants, house by house over all lots, as the definition says."""
    lots = [(set(lot), len(plain_out(net, lot))) for lot in plain_lots(net)]
    numbers = {house: count for house in net.others}
    for house in net.others:
        numbers[house] = next(number for number in range(count + 1) if all(
            out + sum(number if other == house else numbers[other] for other in lot) >= count for lot, out in lots))
    return [(house, number) for house, number in numbers.items() if number]


def plain_is_wants(net, count, wanted, lots):
    """True if the wants and lots, both of the right form, are a right paper."""
    numbers = dict(wanted)
    houses = [house for lot in lots for house in lot]
    missing = sum(count - len(plain_out(net, lot)) for lot in lots)
    return (len(houses) == len(set(houses)) and sum(numbers.values()) == missing
            and all(len(plain_out(net, lot)) + sum(numbers.get(house, 0) for house in lot) >= count
                    for lot in plain_lots(net)))


def with_wants(net, wanted):
    """The net with the new lines."""
    new = [(f"k{place}", house, "h") for place, house in
           enumerate(house for house, number in wanted for _ in range(number))]
    return Net(net.home, net.others, net.lines + new)


class WantsTest(unittest.TestCase):
    def test_small(self):
        self.assertEqual(wants(row(), 2), ([("a", 1), ("b", 1)], [["a"], ["b"]]))
        self.assertEqual(wants(row(), 1), ([], []))
        self.assertEqual(wants(row(), 4)[0], [("a", 3), ("b", 3)])
        self.assertEqual(wants(fork(), 2), ([], []))
        self.assertEqual(wants(fork(), 3)[0], [("a", 1), ("b", 1), ("c", 1)])
        self.assertEqual(wants(Net("h", ["a", "b"]), 3)[0], [("a", 3), ("b", 3)])

    def test_a_later_house_gives_for_an_earlier_one(self):
        # The two houses lead to each other only, so both of them need just one line together.
        net = Net("h", ["a", "b"], [("ab", "a", "b"), ("ba", "b", "a")])
        self.assertEqual(wants(net, 1), ([("b", 1)], [["a", "b"]]))
        self.assertEqual(wants(net, 2)[0], [("a", 1), ("b", 1)])
        self.assertIs(is_wants(net, 2, ([("a", 1), ("b", 1)], [["a"], ["b"]])), True)
        self.assertIs(is_wants(net, 2, ([("a", 1), ("b", 1)], [["a", "b"]])), True)

    def test_lots_that_must_be_joined(self):
        joined = 0
        for seed in range(150):
            chance = random.Random(seed)
            names = ["a", "b", "c", "d"]
            net = Net("h", names, [(f"l{k:02}", chance.choice(names), chance.choice(names))
                                   for k in range(chance.randint(6, 16))])
            for count in (1, 2, 3, 4):
                wanted, lots = wants(net, count)
                self.assertEqual(wanted, plain_wants(net, count))
                self.assertTrue(plain_is_wants(net, count, wanted, lots))
                joined += any(sum(house in lot for house, _ in wanted) > 1 for lot in lots)
        self.assertGreater(joined, 40)

    def test_against_all_lots(self):
        seen = set()
        for seed in range(150):
            net = random_net(seed, 5, 14)
            for count in range(5):
                wanted, lots = wants(net, count)
                self.assertEqual(wanted, plain_wants(net, count))
                self.assertTrue(plain_is_wants(net, count, wanted, lots))
                self.assertIs(is_wants(net, count, (wanted, lots)), True)
                seen.update(number for _, number in wanted)
                if net.others and len(net.lines) + sum(number for _, number in wanted) <= 30:
                    self.assertGreaterEqual(plain_strength(with_wants(net, wanted)), count)
        self.assertEqual(seen, {1, 2, 3, 4})

    def test_large_nets(self):
        nets = [large_net(1), large_net(2), chain(10), chain(11), chain(12), strong_net(1, 9, 2, 3),
                strong_net(2, 10, 2, 5), strong_net(3, 11, 1, 9), Net("h", [f"n{k}" for k in range(11)])]
        for net in nets:
            self.assertGreaterEqual(len(net.houses), 10)
            for count in (1, 2, 4):
                wanted, lots = wants(net, count)
                self.assertEqual(wanted, plain_wants(net, count))
                self.assertIs(is_wants(net, count, (wanted, lots)), True)
        # These do not fit into the limit of lines.
        self.assertEqual(wants(nets[-1], 4)[0], [(house, 4) for house in nets[-1].others])

    def test_no_smaller_number_is_enough(self):
        for seed in range(30):
            net = random_net(seed, 2, 4)
            for count in (1, 2):
                need = sum(number for _, number in wants(net, count)[0])
                ends = list(itertools.product(net.houses, net.houses))
                for chosen in itertools.combinations_with_replacement(ends, min(need, 3) - 1) if need else []:
                    more = [(f"k{place}", *pair) for place, pair in enumerate(chosen)]
                    self.assertLess(plain_strength(Net("h", net.others, net.lines + more)), count)

    def test_count(self):
        for net in (fork(), mixed(), alone(), large_net(3)):
            self.assertEqual(wants(net, 0), ([], []))
            for count in (-1, 5, 10 ** 59, -10 ** 59):
                for call in (wants, strengthen, lambda net, count: is_wants(net, count, None)):
                    self.assertEqual(raised(call, net, count), ("OutOfRange", "count", count))

    def test_home_alone(self):
        for count in range(5):
            for net in (alone(), Net("h")):
                self.assertEqual(wants(net, count), ([], []))
                self.assertIs(is_wants(net, count, ([], [])), True)
                self.assertEqual(strengthen(net, count), net)
                for wrong in [([("h", 1)], []), ([], [["h"]]), ([], [[]]), ([("h", 1)], [["h"]]), ((), [])]:
                    self.assertIs(is_wants(net, count, wrong), False)


class IsWantsTest(unittest.TestCase):
    def test_against_all_papers(self):
        seen = set()
        for seed in range(40):
            net = random_net(seed, 2, 5)
            lots = plain_lots(net)
            for count in (0, 1, 2):
                for numbers in itertools.product(range(count + 2), repeat=len(net.others)):
                    wanted = [(house, number) for house, number in zip(net.others, numbers) if number]
                    for size in range(3):
                        for chosen in itertools.permutations(lots, size):
                            told = plain_is_wants(net, count, wanted, chosen)
                            self.assertIs(is_wants(net, count, (wanted, list(chosen))), told)
                            seen.add((told, bool(wanted), size))
        self.assertEqual(len(seen), 11)

    def test_lots_without_a_shortfall(self):
        self.assertIs(is_wants(fork(), 2, ([], [["a"]])), True)
        self.assertIs(is_wants(fork(), 2, ([], [["c"], ["a"], ["b"]])), True)
        self.assertIs(is_wants(fork(), 2, ([], [["b", "c"]])), True)
        self.assertIs(is_wants(fork(), 2, ([], [["a", "b"]])), False)
        self.assertIs(is_wants(row(), 2, ([("a", 1), ("b", 1)], [["b"], ["a"]])), True)
        self.assertIs(is_wants(row(), 1, ([], [["a", "b"]])), True)
        # A negative shortfall and a positive one make 0 together, but one line is wanted.
        net = Net("h", ["a", "b"], [("p", "a", "h"), ("q", "a", "h")])
        self.assertIs(is_wants(net, 1, ([], [["a"], ["b"]])), False)
        self.assertIs(is_wants(net, 1, ([("b", 1)], [["b"]])), True)

    def test_numbers_that_are_not_greater_than_0(self):
        self.assertIs(is_wants(fork(), 2, ([], [])), True)
        for wanted in ([("a", 0)], [("a", False)], [("a", 0), ("b", 0)], [("c", -1)]):
            self.assertIs(is_wants(fork(), 2, (wanted, [])), False)
        # But for the negative number, every lot would have two lines out.
        net = Net("h", ["a", "b"], [("p", "a", "h"), ("q", "a", "h"), ("r", "a", "h"), ("s", "b", "h")])
        self.assertIs(is_wants(net, 2, ([("a", -1), ("b", 1)], [])), False)
        self.assertIs(is_wants(net, 2, ([("b", 1)], [["b"]])), True)

    def test_other_numbers_that_are_as_few(self):
        net = Net("h", ["a", "b"], [("ab", "a", "b"), ("ba", "b", "a")])
        for wanted in ([("a", 1)], [("b", 1)]):
            self.assertIs(is_wants(net, 1, (wanted, [["a", "b"]])), True)
        self.assertIs(is_wants(net, 1, ([("a", 1), ("b", 1)], [["a", "b"]])), False)
        self.assertIs(is_wants(net, 1, ([("a", 2)], [["a", "b"]])), False)

    def test_papers_near_a_right_one(self):
        right = [("a", 1), ("b", 1)]
        lots = [["a"], ["b"]]
        self.assertIs(is_wants(row(), 2, (right, lots)), True)
        for wrong in [(right, [["a"]]), (right, [["a"], ["b"], ["a"]]), (right, [["a"], ["a", "b"]]),
                      ([("b", 1), ("a", 1)], lots), ([("a", 1), ("a", 1)], lots), ([("a", 2)], lots),
                      ([("a", 1), ("b", 1), ("h", 0)], lots), ([("a", 1), ("b", 0)], [["a"]]), ([("a", 0)], []),
                      ([("a", 3), ("b", -1)], lots), ([("a", True), ("b", 1)], lots), ([("a", 1), ("h", 1)], lots),
                      ([("a", 1), ("z", 1)], lots), ([["a", 1], ["b", 1]], lots), ([("a", 1, 0), ("b", 1)], lots),
                      ([("a",), ("b", 1)], lots), (tuple(right), lots), (right, tuple(lots)), (right, [("a",), ("b",)]),
                      [right, lots], (right, lots, None), (right,), ({"a": 1, "b": 1}, lots), (right, {"a": "b"}),
                      ([("a", "1"), ("b", 1)], lots), ([("a", None), ("b", 1)], lots), (right, [["a"], ["b"], []]),
                      (right, [["b", "a"]]), (right, [["a"], ["z"]]), (right, [["a"], ["h"]]), ([], []), ([], lots),
                      ([("a", 10 ** 59), ("b", 1)], lots), (None, None), ([("a", 1), ("b", 1), ("a", 0)], lots)]:
            before = copy.deepcopy(wrong)
            self.assertIs(is_wants(row(), 2, wrong), False, wrong)
            self.assertEqual(wrong, before)

    def test_every_kind(self):
        for value in KINDS:
            for paper in [value, (value, value), ([("a", 1), ("b", 1)], value), (value, [["a"], ["b"]]),
                          ([value], [["a"], ["b"]]), ([("a", value), ("b", 1)], [["a"], ["b"]]),
                          ([(value, 1), ("b", 1)], [["a"], ["b"]]), ([("a", 1), ("b", 1)], [["a"], value]),
                          ([("a", 1), ("b", 1)], [["a"], [value]])]:
                told = paper in (([("a", 1), ("b", 1)], [["a"], ["b"]]),) and not isinstance(value, bool)
                self.assertIs(is_wants(row(), 2, paper), told, repr(paper))

    def test_a_number_greater_than_the_count_is_never_right(self):
        for seed in range(30):
            net = random_net(seed, 3, 5)
            for count in range(4):
                for house in net.others:
                    wanted = dict(plain_wants(net, count))
                    wanted[house] = count + 1
                    for size in range(3):
                        for lots in itertools.combinations(plain_lots(net), size):
                            paper = (sorted(wanted.items()), list(lots))
                            self.assertIs(is_wants(net, count, paper), False)


class StrengthenTest(unittest.TestCase):
    def test_small(self):
        self.assertEqual(strengthen(row(), 2), Net("h", ["a", "b"], row().lines + [("z1", "a", "h"), ("z2", "b", "h")]))
        self.assertEqual(strengthen(row(), 3), Net("h", ["a", "b"], row().lines + [
            ("z1", "a", "h"), ("z2", "a", "h"), ("z3", "b", "h"), ("z4", "b", "h")]))

    def test_names_in_use(self):
        net = Net("h", ["a", "b"], [("z1", "a", "h"), ("z3", "b", "a"), ("z", "h", "h"), ("z04", "h", "h")])
        self.assertEqual(strengthen(net, 3), Net("h", ["a", "b"], net.lines + [
            ("z2", "a", "h"), ("z4", "a", "h"), ("z5", "b", "h"), ("z6", "b", "h")]))
        # The names of houses do not matter.
        houses = Net("z1", ["z2"])
        self.assertEqual(strengthen(houses, 2).lines, [("z1", "z2", "z1"), ("z2", "z2", "z1")])

    def test_more_than_nine(self):
        net = strengthen(Net("h", ["a", "b", "c"]), 4)
        self.assertEqual(net.out("a"), ["z1", "z2", "z3", "z4"])
        self.assertEqual(net.out("c"), ["z10", "z11", "z12", "z9"])
        self.assertEqual(strength(net), 4)

    def test_a_net_that_wants_nothing(self):
        for net, count in [(fork(), 2), (fork(), 0), (mixed(), 0), (alone(), 4), (chain(12), 1)]:
            self.assertEqual(strengthen(net, count), net)

    def test_by_the_wants(self):
        for seed in range(60):
            net = random_net(seed, 5, 10)
            for count in range(5):
                wanted = plain_wants(net, count)
                tails = [house for house, number in wanted for _ in range(number)]
                if len(net.lines) + len(tails) > 30:
                    continue
                told = Net("h", net.others, net.lines + [(f"z{place}", tail, "h")
                                                         for place, tail in enumerate(tails, start=1)])
                self.assertEqual(strengthen(net, count), told)
                if net.others:
                    self.assertGreaterEqual(strength(told), count)

    def test_the_limit(self):
        net = Net("h", [f"n{k}" for k in range(7)], [("x", "h", "h"), ("y", "h", "h")])
        self.assertEqual(len(strengthen(net, 4).lines), 30)
        more = Net("h", net.others, net.lines + [("w", "h", "h")])
        self.assertEqual(raised(strengthen, more, 4), ("TooMany", "lines", 31, 30))
        self.assertEqual(raised(strengthen, Net("h", [f"n{k}" for k in range(11)]), 4), ("TooMany", "lines", 44, 30))
        full = Net("h", [f"n{k}" for k in range(11)], [(f"l{k}", "n0", "n0") for k in range(30)])
        self.assertEqual(raised(strengthen, full, 4), ("TooMany", "lines", 74, 30))
        self.assertEqual(raised(strengthen, full, 1), ("TooMany", "lines", 41, 30))
        self.assertEqual(strengthen(full, 0), full)


class FreshTest(unittest.TestCase):
    def test_arguments_and_results(self):
        for seed in range(40):
            net = random_net(seed)
            for count in (0, 1, 3):
                paper = unharmed(self, wants, net, count)
                self.assertEqual(paper, wants(remade(net), count))
                self.assertIs(unharmed(self, is_wants, net, count, paper), True)
                if raised(strengthen, net, count) is None:
                    self.assertEqual(unharmed(self, strengthen, net, count), strengthen(remade(net), count))


if __name__ == "__main__":
    unittest.main()
