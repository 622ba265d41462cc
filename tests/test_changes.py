import copy
import itertools
import random
import unittest

from markshome.builder import build, finish_log, log_of_grove
from markshome.buildlog import is_log
from markshome.changes import (all_depths, exchange, exchanges, lead_log, put_line, right_start, shorten, swap, swaps,
                               take_line)
from markshome.flows import weakest_lot
from markshome.groves import all_groves
from markshome.nets import Net
from markshome.trees import is_grove
from samples import (alone, chain, fork, large_net, mixed, plain_arrives, plain_strength, plain_why, raised,
                     random_log, random_net, remade, strong_net, unharmed)

TREES = [["ah", "bc", "ca"], ["ac", "bh", "cb"]]
FIVE = [["ah"]] * 5
WHOLE = [(0, "ah"), (0, "ca"), (0, "bc"), (1, "bh"), (1, "cb"), (1, "ac")]


def full():
    """Home alone with 30 loops."""
    return Net("h", [], [(f"l{k:02}", "h", "h") for k in range(30)])


def made_groves():
    """Nets with a grove of 0 to 4 trees, in which the trees stand in some order."""
    found = []
    for seed in range(40):
        chance = random.Random(seed)
        count = seed % 5
        net = strong_net(seed, 1 + seed % 4, count, 1 + seed % 3)
        grove = build(net, count)[0]
        chance.shuffle(grove)
        found.append((net, grove))
    return found


GROVES = made_groves()


def plain_is_tree(net, lines):
    """True if the lines are a tree, house by house as the definition says."""
    ends = {name: (tail, head) for name, tail, head in net.lines}
    ahead = {ends[line][0]: ends[line][1] for line in lines}
    return (sorted(ends[line][0] for line in lines) == net.others
            and all(plain_arrives(net, ahead, house) for house in net.others))


def plain_exchanged(net, grove, index, old, new):
    """The grove after an exchange, or None if it is none, as the definition says."""
    ends = {name: tail for name, tail, _ in net.lines}
    if old not in grove[index] or ends[old] != ends[new] or any(new in tree for tree in grove):
        return None
    changed = sorted([line for line in grove[index] if line != old] + [new])
    if not plain_is_tree(net, changed):
        return None
    return [changed if at == index else tree for at, tree in enumerate(grove)]


def plain_exchanges(net, grove):
    """All exchanges, by trying all tuples."""
    return [(index, old, new) for index in range(len(grove)) for old in net.line_names for new in net.line_names
            if plain_exchanged(net, grove, index, old, new) is not None]


def plain_swapped(net, grove, first, second, house):
    """The grove after a swap, or None if it is none, as the definition says."""
    if first >= second or house == net.home:
        return None
    ends = {name: tail for name, tail, _ in net.lines}
    one = next(line for line in grove[first] if ends[line] == house)
    two = next(line for line in grove[second] if ends[line] == house)
    trees = [list(tree) for tree in grove]
    trees[first] = sorted([line for line in grove[first] if line != one] + [two])
    trees[second] = sorted([line for line in grove[second] if line != two] + [one])
    return trees if plain_is_tree(net, trees[first]) and plain_is_tree(net, trees[second]) else None


def plain_swaps(net, grove):
    """All swaps, by trying all tuples."""
    indexes = range(len(grove))
    return [(first, second, house) for first in indexes for second in indexes for house in net.houses
            if plain_swapped(net, grove, first, second, house) is not None]


def plain_depths(net, grove):
    """The sum of all depths, house by house."""
    ends = {name: (tail, head) for name, tail, head in net.lines}
    total = 0
    for tree in grove:
        ahead = {ends[line][0]: ends[line][1] for line in tree}
        for house in net.others:
            while house != net.home:
                house = ahead[house]
                total += 1
    return total


def plain_shorten(net, grove, tries):
    """The grove and the number of changes, change by change."""
    made = 0
    while made < tries:
        every = ([plain_exchanged(net, grove, *told) for told in sorted(plain_exchanges(net, grove))]
                 + [plain_swapped(net, grove, *told) for told in sorted(plain_swaps(net, grove))])
        better = [trees for trees in every if plain_depths(net, trees) < plain_depths(net, grove)]
        if not better:
            break
        grove = better[0]
        made += 1
    return (grove, made)


def plain_right_start(net, count, log):
    """The number of right entries at the beginning, entry by entry over all lots."""
    least = plain_strength(net)
    if least is not None and least < count:
        return 0
    for place, (index, line) in enumerate(log):
        before = log[:place]
        if place == count * len(net.others) or line not in net.line_names:
            return place
        if index != place // len(net.others) or plain_why(net, count, before, line)[0] != "free":
            return place
    return len(log)


class LineTest(unittest.TestCase):
    def test_put(self):
        net = put_line(fork(), "new", "h", "b")
        self.assertEqual(net, Net("h", ["a", "b", "c"], fork().lines + [("new", "h", "b")]))
        self.assertEqual(put_line(Net("h"), "h", "h", "h"), Net("h", [], [("h", "h", "h")]))
        self.assertEqual(put_line(Net("h", ["a"]), "a", "a", "a").lines, [("a", "a", "a")])

    def test_put_errors(self):
        self.assertEqual(raised(put_line, full(), "A", "B", "C"), ("BadName", "A"))
        self.assertEqual(raised(put_line, full(), "l00", "", "C"), ("BadName", ""))
        self.assertEqual(raised(put_line, full(), "l00", "z", "C"), ("BadName", "C"))
        self.assertEqual(raised(put_line, full(), "abcdefghi", "z", "z"), ("BadName", "abcdefghi"))
        self.assertEqual(raised(put_line, full(), "l00", "z", "z"), ("TooMany", "lines", 31, 30))
        self.assertEqual(raised(put_line, full(), "x", "h", "h"), ("TooMany", "lines", 31, 30))
        self.assertEqual(raised(put_line, fork(), "ah", "y", "z"), ("Duplicate", "ah"))
        self.assertEqual(raised(put_line, fork(), "ah", "a", "h"), ("Duplicate", "ah"))
        self.assertEqual(raised(put_line, fork(), "x", "y", "z"), ("UnknownHouse", "y"))
        self.assertEqual(raised(put_line, fork(), "x", "a", "z"), ("UnknownHouse", "z"))
        self.assertEqual(raised(put_line, fork(), "x", "ah", "a"), ("UnknownHouse", "ah"))
        self.assertEqual(len(put_line(full() - ["l03"], "l03", "h", "h").lines), 30)

    def test_take(self):
        self.assertEqual(take_line(fork(), "bc"), Net("h", ["a", "b", "c"], [row for row in fork().lines
                                                                             if row[0] != "bc"]))
        for wrong in ("zz", "", "a", "h"):
            self.assertEqual(raised(take_line, fork(), wrong), ("UnknownLine", wrong))
        for seed in range(20):
            net = random_net(seed)
            for name, tail, head in net.lines:
                self.assertEqual(put_line(take_line(net, name), name, tail, head), net)


class ExchangeTest(unittest.TestCase):
    def test_small(self):
        net = Net("h", ["a", "b"], [("a1", "a", "h"), ("a2", "a", "b"), ("a3", "a", "h"), ("aa", "a", "a"),
                                    ("b1", "b", "h"), ("b2", "b", "a"), ("ha", "h", "a")])
        self.assertEqual(exchanges(net, [["a1", "b2"]]), [(0, "a1", "a3"), (0, "b2", "b1")])
        self.assertEqual(exchanges(net, [["a1", "b1"]]), [(0, "a1", "a2"), (0, "a1", "a3"), (0, "b1", "b2")])
        self.assertEqual(exchanges(net, [["a1", "b2"], ["a2", "b1"]]), [(0, "a1", "a3"), (1, "a2", "a3")])
        self.assertEqual(exchange(net, [["a1", "b2"], ["a2", "b1"]], 1, "a3"), [["a1", "b2"], ["a3", "b1"]])
        self.assertEqual(exchange(net, [["a1", "b2"]], 0, "b1"), [["a1", "b1"]])
        self.assertEqual(exchanges(fork(), TREES), [])
        self.assertEqual(exchanges(fork(), []), [])
        self.assertEqual(exchanges(alone(), [[], []]), [])

    def test_the_order_is_that_of_the_tuples(self):
        # The old lines are ascending, but the new ones are not.
        net = Net("h", ["a", "b"], [("c", "a", "h"), ("z", "a", "h"), ("d", "b", "h"), ("a", "b", "h")])
        self.assertEqual(exchanges(net, [["c", "d"]]), [(0, "c", "z"), (0, "d", "a")])

    def test_against_all_tuples(self):
        many = 0
        for net, grove in GROVES:
            told = exchanges(net, grove)
            self.assertEqual(told, sorted(plain_exchanges(net, grove)))
            many += len(told)
            for index in range(len(grove)):
                for new in net.line_names:
                    olds = [old for at, old, other in told if (at, other) == (index, new)]
                    if olds:
                        result = exchange(net, grove, index, new)
                        self.assertEqual(result, plain_exchanged(net, grove, index, olds[0], new))
                        self.assertIs(is_grove(net, result), True)
                        self.assertEqual(len(result), len(grove))
                    else:
                        self.assertEqual(raised(exchange, net, grove, index, new), ("Unlike", "exchange"))
        self.assertGreater(many, 40)

    def test_by_the_houses_below(self):
        for net, grove in GROVES:
            for index, tree in enumerate(grove):
                ahead = {net.tail(line): net.head(line) for line in tree}
                for new in net.line_names:
                    if net.tail(new) == net.home or any(new in other for other in grove):
                        continue
                    house = net.head(new)
                    met = [house]
                    while house != net.home:
                        house = ahead[house]
                        met.append(house)
                    right = net.tail(new) not in met
                    self.assertEqual(raised(exchange, net, grove, index, new) is None, right)

    def test_errors(self):
        bad = [["ah", "bc"], ["zz"]]
        for index in (-1, 2, 10 ** 59, -10 ** 59):
            self.assertEqual(raised(exchange, fork(), bad, index, "zz"), ("OutOfRange", "index", index))
        self.assertEqual(raised(exchange, fork(), [], 0, "zz"), ("OutOfRange", "index", 0))
        for index in (-1, 5):
            self.assertEqual(raised(exchange, fork(), FIVE, index, "zz"), ("OutOfRange", "index", index))
        self.assertEqual(raised(exchange, fork(), FIVE, 4, "zz"), ("TooMany", "trees", 5, 4))
        self.assertEqual(raised(exchange, fork(), bad, 1, "y"), ("UnknownLine", "y"))
        self.assertEqual(raised(exchange, fork(), bad, 1, "a"), ("UnknownLine", "a"))
        self.assertEqual(raised(exchange, fork(), bad, 1, "ah"), ("BadTree", 0))
        self.assertEqual(raised(exchange, fork(), [TREES[0], ["zz"]], 0, "ac"), ("BadTree", 1))
        self.assertEqual(raised(exchange, fork(), [TREES[0], TREES[0]], 0, "ac"), ("BadTree", 1))
        # The line stands in the tree, in another tree, leads round, leads out of home, or is a loop.
        self.assertEqual(raised(exchange, fork(), TREES, 0, "ah"), ("Unlike", "exchange"))
        self.assertEqual(raised(exchange, fork(), TREES, 0, "bh"), ("Unlike", "exchange"))
        self.assertEqual(raised(exchange, fork(), TREES[:1], 0, "ac"), ("Unlike", "exchange"))
        self.assertIsNone(raised(exchange, fork(), TREES[:1], 0, "bh"))
        loops = Net("h", ["a"], [("ah", "a", "h"), ("aa", "a", "a"), ("ha", "h", "a"), ("hh", "h", "h")])
        for new in ("aa", "ha", "hh", "ah"):
            self.assertEqual(raised(exchange, loops, [["ah"]], 0, new), ("Unlike", "exchange"))
        self.assertEqual(raised(exchange, alone(), [[]], 0, "l1"), ("Unlike", "exchange"))
        self.assertEqual(raised(exchanges, fork(), FIVE), ("TooMany", "trees", 5, 4))
        self.assertEqual(raised(exchanges, fork(), bad), ("BadTree", 0))
        self.assertEqual(raised(exchanges, mixed(), [[]]), ("BadTree", 0))


class SwapTest(unittest.TestCase):
    def test_small(self):
        net = Net("h", ["a", "b"], [("a1", "a", "h"), ("a2", "a", "h"), ("b1", "b", "a"), ("b2", "b", "h")])
        grove = [["a1", "b1"], ["a2", "b2"]]
        self.assertEqual(swaps(net, grove), [(0, 1, "a"), (0, 1, "b")])
        self.assertEqual(swap(net, grove, 0, 1, "a"), [["a2", "b1"], ["a1", "b2"]])
        self.assertEqual(swap(net, grove, 0, 1, "b"), [["a1", "b2"], ["a2", "b1"]])
        self.assertEqual(swaps(fork(), TREES), [])
        self.assertEqual(swaps(fork(), []), [])
        self.assertEqual(swaps(fork(), TREES[:1]), [])
        self.assertEqual(swaps(alone(), [[], []]), [])

    def test_against_all_tuples(self):
        seen = set()
        for net, grove in GROVES:
            told = swaps(net, grove)
            self.assertEqual(told, sorted(plain_swaps(net, grove)))
            for first, second, house in itertools.product(range(len(grove)), range(len(grove)), net.others):
                trees = plain_swapped(net, grove, first, second, house)
                seen.add((first, second, trees is None))
                if trees is None:
                    self.assertEqual(raised(swap, net, grove, first, second, house), ("Unlike", "swap"))
                else:
                    result = swap(net, grove, first, second, house)
                    self.assertEqual(result, trees)
                    self.assertIs(is_grove(net, result), True)
                    self.assertEqual(len(result), len(grove))
        self.assertEqual(len(seen), 16 + 6)

    def test_only_one_of_both_stays_a_tree(self):
        net = Net("h", ["a", "b"], [("a1", "a", "b"), ("b1", "b", "h"), ("a2", "a", "h"), ("b2", "b", "a")])
        grove = [["a1", "b1"], ["a2", "b2"]]
        self.assertEqual(swaps(net, grove), [])
        self.assertEqual(raised(swap, net, grove, 0, 1, "a"), ("Unlike", "swap"))
        self.assertEqual(raised(swap, net, grove, 0, 1, "b"), ("Unlike", "swap"))

    def test_errors(self):
        bad = [["ah", "bc"], ["zz"]]
        for index in (-1, 2, 10 ** 59, -10 ** 59):
            self.assertEqual(raised(swap, fork(), bad, index, 7, "zz"), ("OutOfRange", "first", index))
            self.assertEqual(raised(swap, fork(), bad, 1, index, "zz"), ("OutOfRange", "second", index))
        self.assertEqual(raised(swap, fork(), [], 0, 0, "zz"), ("OutOfRange", "first", 0))
        self.assertEqual(raised(swap, fork(), FIVE, 0, 5, "zz"), ("OutOfRange", "second", 5))
        self.assertEqual(raised(swap, fork(), FIVE, 4, 0, "zz"), ("TooMany", "trees", 5, 4))
        self.assertEqual(raised(swap, fork(), bad, 0, 0, "zz"), ("UnknownHouse", "zz"))
        self.assertEqual(raised(swap, fork(), bad, 0, 1, "ah"), ("UnknownHouse", "ah"))
        self.assertEqual(raised(swap, fork(), bad, 1, 0, "h"), ("BadLot", "h"))
        self.assertEqual(raised(swap, fork(), bad, 1, 0, "a"), ("BadTree", 0))
        self.assertEqual(raised(swap, fork(), [TREES[0], ["zz"]], 0, 0, "a"), ("BadTree", 1))
        for first, second in [(0, 0), (1, 1), (1, 0), (0, 1)]:
            self.assertEqual(raised(swap, fork(), TREES, first, second, "a"), ("Unlike", "swap"))
        self.assertEqual(raised(swap, alone(), [[], []], 0, 1, "h"), ("BadLot", "h"))
        self.assertEqual(raised(swaps, fork(), FIVE), ("TooMany", "trees", 5, 4))
        self.assertEqual(raised(swaps, fork(), [TREES[0], ["zz"]]), ("BadTree", 1))

    def test_a_greater_first_index(self):
        net = Net("h", ["a"], [("a1", "a", "h"), ("a2", "a", "h")])
        self.assertEqual(swap(net, [["a1"], ["a2"]], 0, 1, "a"), [["a2"], ["a1"]])
        self.assertEqual(raised(swap, net, [["a1"], ["a2"]], 1, 0, "a"), ("Unlike", "swap"))
        self.assertEqual(raised(swap, net, [["a1"], ["a2"]], 0, 0, "a"), ("Unlike", "swap"))


class DepthsTest(unittest.TestCase):
    def test_all_depths(self):
        self.assertEqual(all_depths(fork(), TREES), 12)
        self.assertEqual(all_depths(fork(), TREES[:1]), 6)
        self.assertEqual(all_depths(fork(), []), 0)
        self.assertEqual(all_depths(alone(), [[], [], []]), 0)
        self.assertEqual(all_depths(chain(12), [chain(12).line_names]), 66)
        for net, grove in GROVES:
            self.assertEqual(all_depths(net, grove), plain_depths(net, grove))
        self.assertEqual(raised(all_depths, fork(), FIVE), ("TooMany", "trees", 5, 4))
        self.assertEqual(raised(all_depths, fork(), [TREES[0], []]), ("BadTree", 1))
        self.assertEqual(raised(all_depths, mixed(), [[]]), ("BadTree", 0))


class ShortenTest(unittest.TestCase):
    def test_small(self):
        lines = [("ah", "a", "h"), ("ba", "b", "a"), ("bh", "b", "h"), ("cb", "c", "b"), ("ch", "c", "h")]
        net = Net("h", ["a", "b", "c"], lines)
        start = [["ah", "ba", "cb"]]
        self.assertEqual(shorten(net, start, 0), (start, 0))
        self.assertEqual(shorten(net, start, 1), ([["ah", "bh", "cb"]], 1))
        self.assertEqual(shorten(net, start, 2), ([["ah", "bh", "ch"]], 2))
        self.assertEqual(shorten(net, start, 3), ([["ah", "bh", "ch"]], 2))
        self.assertEqual(shorten(net, start, 20), ([["ah", "bh", "ch"]], 2))
        self.assertEqual(shorten(fork(), TREES, 20), (TREES, 0))
        self.assertEqual(shorten(fork(), [], 20), ([], 0))
        self.assertEqual(shorten(alone(), [[], []], 20), ([[], []], 0))

    def test_exchanges_come_ahead_of_swaps(self):
        lines = [("a1", "a", "b"), ("a2", "a", "h"), ("b1", "b", "h"), ("b2", "b", "h"), ("c1", "c", "a"),
                 ("c2", "c", "h"), ("c3", "c", "h")]
        net = Net("h", ["a", "b", "c"], lines)
        grove = [["a1", "b1", "c1"], ["a2", "b2", "c2"]]
        self.assertEqual(shorten(net, grove, 1), ([["a1", "b1", "c3"], ["a2", "b2", "c2"]], 1))
        self.assertTrue(any(plain_depths(net, plain_swapped(net, grove, *told)) < plain_depths(net, grove)
                            for told in plain_swaps(net, grove)))

    def test_change_by_change(self):
        made = set()
        swapped = 0
        for seed in range(90):
            net = strong_net(seed, 3 + seed % 3, 1 + seed % 3, 3 + seed % 4)
            groves = all_groves(net, 2) if raised(all_groves, net, 2) is None else []
            chance = random.Random(seed)
            for grove in [build(net, 1 + seed % 3)[0]] + chance.sample(groves, min(3, len(groves))):
                for tries in (0, 1, 2, 20):
                    told = plain_shorten(net, grove, tries)
                    self.assertEqual(shorten(net, grove, tries), told)
                    made.add(told[1])
                    result, number = told
                    self.assertIs(is_grove(net, result), True)
                    self.assertLessEqual(all_depths(net, result) + number, all_depths(net, grove))
                if not plain_exchanges(net, grove):
                    swapped += plain_shorten(net, grove, 1)[1]
        self.assertLessEqual({0, 1, 2, 3}, made)
        self.assertGreater(swapped, 0)

    def test_twenty_changes(self):
        # Each house of a row has a line to every house ahead of it, and the names of the lines are such that
        # each exchange makes the tree less deep by one. There are 21 of them.
        names = ["h"] + [f"n{k}" for k in range(1, 8)]
        lines = [(f"l{9 - k}{k - j}", names[k + 1], names[j]) for k in range(7) for j in range(k + 1)]
        net = Net("h", names[1:], lines)
        start = [[f"l{k}0" for k in range(3, 10)]]
        self.assertEqual(all_depths(net, start), 28)
        for tries in range(21):
            grove, made = shorten(net, start, tries)
            self.assertEqual((made, all_depths(net, grove)), (tries, 28 - tries))
        self.assertEqual(shorten(net, start, 20), plain_loop(net, start, 20))
        self.assertEqual(shorten(net, shorten(net, start, 20)[0], 20)[1], 1)

    def test_errors(self):
        bad = [["ah", "bc"]]
        for tries in (-1, 21, 10 ** 59):
            self.assertEqual(raised(shorten, fork(), FIVE, tries), ("OutOfRange", "tries", tries))
        self.assertEqual(raised(shorten, fork(), FIVE, 0), ("TooMany", "trees", 5, 4))
        self.assertEqual(raised(shorten, fork(), bad, 0), ("BadTree", 0))
        self.assertEqual(raised(shorten, fork(), [TREES[1], TREES[1]], 20), ("BadTree", 1))


def plain_loop(net, grove, tries):
    """The grove after so many first exchanges or swaps that make it less deep, each taken by its own call."""
    made = 0
    while made < tries:
        depth = all_depths(net, grove)
        better = [exchange(net, grove, index, new) for index, _, new in exchanges(net, grove)]
        better += [swap(net, grove, *told) for told in swaps(net, grove)]
        better = [trees for trees in better if all_depths(net, trees) < depth]
        if not better:
            break
        grove = better[0]
        made += 1
    return (grove, made)


class RightStartTest(unittest.TestCase):
    def test_fork(self):
        self.assertEqual(right_start(fork(), 2, WHOLE), 6)
        for length in range(7):
            self.assertEqual(right_start(fork(), 2, WHOLE[:length]), length)
        self.assertEqual(right_start(fork(), 2, [(0, "ah"), (0, "bh")]), 1)
        self.assertEqual(right_start(fork(), 1, [(0, "ah"), (0, "bh")]), 2)
        self.assertEqual(right_start(fork(), 2, WHOLE + [(2, "ah")]), 6)
        self.assertEqual(right_start(fork(), 2, WHOLE + [(1, "ah")] * 394), 6)
        self.assertEqual(right_start(fork(), 3, WHOLE), 0)
        self.assertEqual(right_start(fork(), 0, WHOLE), 0)
        self.assertEqual(right_start(fork(), 0, []), 0)

    def test_wrong_entries_at_any_place(self):
        for place in range(6):
            for wrong in [(-1, WHOLE[place][1]), (WHOLE[place][0] + 1, WHOLE[place][1]), (-10 ** 59, "ah"),
                          (10 ** 59, "zz"), (WHOLE[place][0], "zz"), (WHOLE[place][0], ""),
                          (WHOLE[place][0], "a"), (WHOLE[place][0], WHOLE[place - 1][1] if place else "bc")]:
                log = WHOLE[:place] + [wrong] + WHOLE[place + 1:]
                self.assertEqual(right_start(fork(), 2, log), plain_right_start(fork(), 2, log))
                self.assertEqual(right_start(fork(), 2, log), place)
                log = lead_log(fork(), 2, log)
                self.assertEqual(log, (finish_log(fork(), 2, WHOLE[:place]), place, None))

    def test_home_alone(self):
        for count in range(5):
            self.assertEqual(right_start(alone(), count, []), 0)
            self.assertEqual(right_start(alone(), count, [(0, "l1"), (1, "l2")]), 0)
            self.assertEqual(lead_log(alone(), count, [(0, "l1"), (count, "zz")]), ([], 0, None))

    def test_against_all_lots(self):
        seen = set()
        for seed in range(60):
            chance = random.Random(seed)
            net = strong_net(seed, 1 + seed % 4, 1 + seed % 3, seed % 3)
            count = 1 + seed % 3
            log = random_log(net, count, seed)
            other = strong_net(seed + 1, 1 + seed % 4, 1 + seed % 3, 1)
            for changed in [log, log + [(count, "l0")], log[1:], log[::-1],
                            [(index, chance.choice(net.line_names)) for index, _ in log],
                            log[:len(log) // 2] + [(0, "zz")] + log[len(log) // 2:]]:
                for place in (net, other, net - log[-1:][0][1:]):
                    for trees in (0, count, count + 1):
                        told = plain_right_start(place, trees, changed)
                        self.assertEqual(right_start(place, trees, changed), told)
                        seen.add(min(told, 4))
                        weak = plain_strength(place) < trees
                        if weak:
                            self.assertEqual(lead_log(place, trees, changed), (None, 0, weakest_lot(place)))
                        else:
                            whole = finish_log(place, trees, changed[:told])
                            self.assertEqual(lead_log(place, trees, changed), (whole, told, None))
                            self.assertIs(is_log(place, trees, whole), True)
        self.assertEqual(seen, {0, 1, 2, 3, 4})

    def test_weak_nets(self):
        self.assertEqual(right_start(fork(), 3, []), 0)
        self.assertEqual(lead_log(fork(), 3, WHOLE), (None, 0, ["a"]))
        self.assertEqual(lead_log(mixed(), 1, [(0, "a1")]), (None, 0, ["d"]))
        self.assertEqual(lead_log(mixed(), 0, [(0, "a1")]), ([], 0, None))
        self.assertEqual(lead_log(fork(), 0, []), ([], 0, None))

    def test_only_the_count_is_wrong(self):
        for count in (-1, 5, 10 ** 59):
            self.assertEqual(raised(right_start, fork(), count, [(7, "zz")]), ("OutOfRange", "count", count))
            self.assertEqual(raised(lead_log, mixed(), count, []), ("OutOfRange", "count", count))


class TogetherTest(unittest.TestCase):
    def test_a_grove_stays_one(self):
        for net, grove in GROVES:
            used = [line for tree in grove for line in tree]
            for tail, head in itertools.product(net.houses, net.houses):
                self.assertIs(is_grove(put_line(net, "new", tail, head), grove), True)
            for line in net.line_names:
                self.assertIs(is_grove(take_line(net, line), grove), line not in used)

    def test_a_right_log_stays_right_when_a_line_is_put_in(self):
        for seed in range(24):
            net = strong_net(seed, 1 + seed % 3, 1 + seed % 3, seed % 2)
            for count in range(1, min(4, plain_strength(net)) + 1):
                log = random_log(net, count, seed)
                for tail, head in itertools.product(net.houses, net.houses):
                    more = put_line(net, "k", tail, head)
                    for length in range(len(log) + 1):
                        self.assertIs(is_log(more, count, log[:length], whole=False), True)
                    self.assertEqual(right_start(more, count, log), len(log))
                    self.assertEqual(lead_log(more, count, log), (log, len(log), None))

    def test_entries_ahead_of_a_line_taken_out_may_become_wrong(self):
        # Without the last line, the first entry leaves too few lines out of some lot.
        found = []
        for seed in range(60):
            net = strong_net(seed, 3, 2, 1)
            log = random_log(net, 2, seed)
            for place, (_, line) in enumerate(log):
                less = take_line(net, line)
                kept = right_start(less, 2, log)
                self.assertLessEqual(kept, place)
                if plain_strength(less) >= 2 and kept < place:
                    found.append((kept, place))
                    self.assertIs(is_log(less, 2, log[:kept], whole=False), True)
                    self.assertIs(is_log(less, 2, log[:kept + 1], whole=False), False)
        self.assertTrue(found)

    def test_the_log_of_a_grove_is_kept(self):
        for net, grove in GROVES:
            log = log_of_grove(net, grove)
            self.assertEqual(lead_log(net, len(grove), log), (log, len(log), None))

    def test_a_line_that_is_in_no_tree(self):
        net = put_line(fork(), "new", "c", "h")
        self.assertEqual(lead_log(take_line(net, "new"), 2, WHOLE), (WHOLE, 6, None))
        self.assertEqual(lead_log(take_line(net, "cb"), 2, WHOLE), (WHOLE[:4] + [(1, "new"), (1, "ac")], 4, None))
        self.assertEqual(lead_log(take_line(fork(), "cb"), 2, WHOLE), (None, 0, ["a", "c"]))


class LargeTest(unittest.TestCase):
    def test_large_nets(self):
        net = strong_net(3, 7, 4, 2)
        grove, log, _ = build(net, 4)
        self.assertEqual(len(net.lines), 30)
        self.assertEqual(lead_log(net, 4, log), (log, 28, None))
        result, made = shorten(net, grove, 20)
        self.assertIs(is_grove(net, result), True)
        self.assertEqual((result, made), plain_loop(net, grove, 20))
        net = large_net(4)
        self.assertEqual(right_start(net, 4, [(0, "l0")] * 400), 0)


class FreshTest(unittest.TestCase):
    def test_arguments_and_results(self):
        for net, grove in GROVES:
            other = remade(net)
            same = copy.deepcopy(grove)
            count = len(grove)
            log = log_of_grove(net, grove) + [(7, "zz")]
            self.assertEqual(unharmed(self, put_line, net, "new", "h", "x0"), put_line(other, "new", "h", "x0"))
            for line in net.line_names[:2]:
                self.assertEqual(unharmed(self, take_line, net, line), take_line(other, line))
            self.assertEqual(unharmed(self, exchanges, net, grove), exchanges(other, same))
            self.assertEqual(unharmed(self, swaps, net, grove), swaps(other, same))
            for index, _, new in exchanges(net, grove)[:3]:
                self.assertEqual(unharmed(self, exchange, net, grove, index, new), exchange(other, same, index, new))
            for first, second, house in swaps(net, grove)[:3]:
                self.assertEqual(unharmed(self, swap, net, grove, first, second, house),
                                 swap(other, same, first, second, house))
            self.assertEqual(unharmed(self, all_depths, net, grove), all_depths(other, same))
            for tries in (0, 1, 20):
                self.assertEqual(unharmed(self, shorten, net, grove, tries), shorten(other, same, tries))
            self.assertEqual(unharmed(self, right_start, net, count, log), right_start(other, count, list(log)))
            self.assertEqual(unharmed(self, lead_log, net, count, log), lead_log(other, count, list(log)))
            if count < 4:
                self.assertEqual(unharmed(self, lead_log, net, count + 1, log), lead_log(other, count + 1, list(log)))


if __name__ == "__main__":
    unittest.main()
