import copy
import itertools
import unittest

from markshome.nets import Net
from markshome.parted import gather_homes, house_cut, house_ways, is_house_cut, is_house_ways, part_houses
from samples import (KINDS, alone, chain, fork, large_net, mixed, plain_least_lots, plain_lots, plain_out, plain_ways,
                     raised, random_net, remade, unharmed)

LONG = "abcdefgh"


def plain_parted(net):
    """The parted net, house by house and line by line as the definition says."""
    lines = [(house + "1", house + "0", house + "1") for house in net.others]
    for name, tail, head in net.lines:
        start = net.home + "9" if tail == net.home else tail + "1"
        end = net.home + "9" if head == net.home else head + "0"
        lines.append((name + "0", start, end))
    return Net(net.home + "9", [house + sign for house in net.others for sign in "01"], lines)


def plain_between(net, way):
    """The houses that a way enters, without home."""
    heads = {name: head for name, _, head in net.lines}
    return [heads[line] for line in way if heads[line] != net.home]


def plain_apart(net, one, two):
    """True if two ways have no line and no house that is entered in common."""
    return not set(one) & set(two) and not set(plain_between(net, one)) & set(plain_between(net, two))


def plain_most(net, ways):
    """The greatest number of the ways that are apart, by trying each one and leaving it out."""
    if not ways:
        return 0
    rest = [way for way in ways[1:] if plain_apart(net, ways[0], way)]
    return max(1 + plain_most(net, rest), plain_most(net, ways[1:]))


def plain_open(net, house, houses, lines):
    """The ways from the house that avoid these houses and lines."""
    return [way for way in plain_ways(net, house, lines) if not set(plain_between(net, way)) & set(houses)]


def subsets(names):
    """Every selection of the names, ascending in itself."""
    return [list(chosen) for size in range(len(names) + 1) for chosen in itertools.combinations(sorted(names), size)]


def wide(many):
    """A net of so many houses with home, each with one line home."""
    names = [f"n{k}" for k in range(many - 1)]
    return Net("h", names, [(f"l{k}", name, "h") for k, name in enumerate(names)])


def dense(houses, lines):
    """A net of so many houses but home and so many lines, all out of the first house."""
    names = [f"n{k}" for k in range(houses)]
    return Net("h", names, [(f"l{k}", "n0", "h") for k in range(lines)])


class PartTest(unittest.TestCase):
    def test_small(self):
        net = Net("h", ["b", "a"], [("ab", "a", "b"), ("aa", "a", "a"), ("bh", "b", "h"), ("hb", "h", "b"),
                                    ("hh", "h", "h")])
        self.assertEqual(part_houses(net), Net("h9", ["a0", "a1", "b0", "b1"], [
            ("a1", "a0", "a1"), ("b1", "b0", "b1"), ("ab0", "a1", "b0"), ("aa0", "a1", "a0"), ("bh0", "b1", "h9"),
            ("hb0", "h9", "b0"), ("hh0", "h9", "h9")]))

    def test_by_definition(self):
        for net in [fork(), mixed(), alone(), Net("h")] + [random_net(seed) for seed in range(40)]:
            self.assertEqual(part_houses(net), plain_parted(net))

    def test_home_alone(self):
        self.assertEqual(part_houses(Net("h")), Net("h9"))
        self.assertEqual(part_houses(alone()), Net("h9", [], [("l10", "h9", "h9"), ("l20", "h9", "h9")]))

    def test_names_that_end_in_digits(self):
        net = Net("a9", ["a", "a0", "a1"], [("a", "a0", "a1"), ("a0", "a", "a9"), ("a1", "a1", "a")])
        self.assertEqual(part_houses(net), plain_parted(net))
        self.assertEqual(part_houses(net).home, "a99")

    def test_long_names(self):
        long = [LONG[:-1] + sign for sign in "klmn"]
        lines = [(long[1], long[2], long[0]), ("x", long[3], long[0]), (long[0], long[3], long[0])]
        net = Net(long[2], [long[3], long[0]], lines)
        other = Net("h", [long[3], "a", long[0]], [(long[1], "a", "h")])
        third = Net("h", ["a"], [(long[3], "a", "h"), ("x", "a", "h"), (long[1], "a", "h")])
        for call in [part_houses, lambda net: house_ways(net, "zz"), lambda net: house_cut(net, net.home)]:
            self.assertEqual(raised(call, net), ("BadName", long[2]))
            self.assertEqual(raised(call, other), ("BadName", long[0]))
            self.assertEqual(raised(call, third), ("BadName", long[1]))
        seven = Net("h" * 7, ["a" * 7], [("x" * 7, "a" * 7, "h" * 7)])
        self.assertEqual(part_houses(seven).lines, [("a" * 7 + "1", "a" * 7 + "0", "a" * 7 + "1"),
                                                    ("x" * 7 + "0", "a" * 7 + "1", "h" * 7 + "9")])

    def test_too_large(self):
        calls = [part_houses, lambda net: house_ways(net, "zz"), lambda net: house_cut(net, net.home)]
        self.assertEqual(len(part_houses(wide(6)).houses), 11)
        for call in calls:
            self.assertEqual(raised(call, wide(7)), ("TooMany", "houses", 13, 12))
            self.assertEqual(raised(call, wide(12)), ("TooMany", "houses", 23, 12))
            self.assertEqual(raised(call, large_net(1)), ("TooMany", "houses", 23, 12))
            self.assertEqual(raised(call, dense(5, 26)), ("TooMany", "lines", 31, 30))
            self.assertEqual(raised(call, dense(1, 30)), ("TooMany", "lines", 31, 30))
            self.assertEqual(raised(call, Net(LONG, [f"n{k}" for k in range(11)])), ("BadName", LONG))
        self.assertEqual(len(part_houses(dense(5, 25)).lines), 30)
        self.assertEqual(len(part_houses(Net("h", [], [(f"l{k}", "h", "h") for k in range(30)])).lines), 30)


class WaysAndCutTest(unittest.TestCase):
    def test_fork(self):
        self.assertEqual(house_cut(fork(), "a"), ([], ["ac", "ah"]))
        self.assertEqual(house_cut(fork(), "c"), ([], ["ca", "cb"]))
        self.assertEqual(sorted(house_ways(fork(), "a")), [["ac", "cb", "bh"], ["ah"]])
        self.assertEqual(sorted(house_ways(fork(), "c")), [["ca", "ah"], ["cb", "bh"]])

    def test_a_house_between(self):
        lines = [("p", "a", "b"), ("q", "a", "c"), ("r", "b", "d"), ("s", "c", "d"), ("t", "d", "h"), ("u", "d", "h")]
        net = Net("h", ["a", "b", "c", "d"], lines)
        self.assertEqual(house_cut(net, "a"), (["d"], []))
        self.assertEqual(house_cut(net, "d"), ([], ["t", "u"]))
        self.assertEqual(house_cut(net, "b"), ([], ["r"]))
        self.assertEqual(len(house_ways(net, "a")), 1)
        # Several lines straight home are several ways.
        self.assertEqual(sorted(house_ways(net, "d")), [["t"], ["u"]])
        more = Net("h", ["a", "b", "c", "d"], lines + [("v", "a", "h"), ("w", "a", "d")])
        self.assertEqual(house_cut(more, "a"), (["d"], ["v"]))

    def test_the_order_of_names(self):
        # With a sign more behind it, "a0" stands ahead of "a" here.
        net = Net("h", ["a", "a0", "b"], [("x", "b", "a"), ("x2", "b", "a"), ("y", "b", "a0"), ("y2", "b", "a0"),
                                          ("z", "a", "h"), ("z2", "a0", "h"), ("w", "a", "h"), ("w2", "a0", "h")])
        self.assertEqual(house_cut(net, "b"), (["a", "a0"], []))
        straight = Net("h", ["b"], [("x1", "b", "h"), ("x", "b", "h"), ("x0", "b", "h"), ("x11", "b", "h")])
        self.assertEqual(house_cut(straight, "b"), ([], ["x", "x0", "x1", "x11"]))

    def test_no_way(self):
        self.assertEqual(house_ways(mixed(), "d"), [])
        self.assertEqual(house_cut(mixed(), "d"), ([], []))
        self.assertEqual(house_ways(Net("h", ["a"], [("aa", "a", "a"), ("ha", "h", "a")]), "a"), [])
        self.assertEqual(house_cut(Net("h", ["a"], [("aa", "a", "a"), ("ha", "h", "a")]), "a"), ([], []))

    def test_against_all_choices(self):
        numbers = set()
        kinds = set()
        for seed in range(150):
            net = random_net(seed, 4, 11)
            for house in net.others:
                ways = house_ways(net, house)
                houses, lines = house_cut(net, house)
                number = plain_most(net, plain_ways(net, house))
                self.assertEqual(len(ways), number)
                self.assertEqual(len(houses) + len(lines), number)
                self.assertIs(is_house_ways(net, house, ways), True)
                self.assertIs(is_house_cut(net, house, (houses, lines)), True)
                self.assertEqual(plain_open(net, house, houses, lines), [])
                numbers.add(number)
                kinds.add((bool(houses), bool(lines)))
        self.assertLessEqual({0, 1, 2, 3}, numbers)
        self.assertEqual(len(kinds), 4)

    def test_the_cut_is_that_of_the_smallest_least_lot(self):
        for seed in range(60):
            net = random_net(seed, 4, 11)
            parted = plain_parted(net)
            for house in net.others:
                lot = min(plain_least_lots(parted, house + "1"), key=len)
                cut = plain_out(parted, lot)
                told = (sorted(line[:-1] for line in cut if line[-1] == "1"),
                        sorted(line[:-1] for line in cut if line[-1] == "0"))
                self.assertEqual(house_cut(net, house), told)

    def test_a_full_net(self):
        net = Net("h", [f"n{k}" for k in range(5)], [(f"l{k}", f"n{k % 5}", f"n{(k + 1 + k // 5) % 5}")
                                                     for k in range(20)] + [(f"m{k}", f"n{k}", "h") for k in range(5)])
        for house in net.others:
            self.assertEqual(len(house_ways(net, house)), plain_most(net, plain_ways(net, house)))
            self.assertEqual(sum(len(part) for part in house_cut(net, house)), len(house_ways(net, house)))

    def test_errors(self):
        for call in (house_ways, house_cut):
            self.assertEqual(raised(call, fork(), "zz"), ("UnknownHouse", "zz"))
            self.assertEqual(raised(call, fork(), ""), ("UnknownHouse", ""))
            self.assertEqual(raised(call, fork(), "ah"), ("UnknownHouse", "ah"))
            self.assertEqual(raised(call, fork(), "h"), ("BadLot", "h"))
            self.assertEqual(raised(call, alone(), "h"), ("BadLot", "h"))
            self.assertEqual(raised(call, wide(7), "n1"), ("TooMany", "houses", 13, 12))


class IsHouseWaysTest(unittest.TestCase):
    def test_against_all_lists(self):
        for seed in range(60):
            net = random_net(seed, 4, 8)
            for house in net.others:
                ways = plain_ways(net, house)
                for size in range(3):
                    for chosen in itertools.permutations(ways, size):
                        right = all(plain_apart(net, one, two) for one, two in itertools.combinations(chosen, 2))
                        self.assertIs(is_house_ways(net, house, list(chosen)), right)

    def test_papers_near_a_right_one(self):
        right = [["ac", "cb", "bh"], ["ah"]]
        self.assertIs(is_house_ways(fork(), "a", right), True)
        self.assertIs(is_house_ways(fork(), "a", []), True)
        for wrong in [[["ah"], ["ah"]], [["ah"], []], [["ah", "ah"]], [["ac", "cb"]], [["bh"]], [("ah",)],
                      (["ah"],), [["ah"], "ah"], ["ah"], [["ac", "cb", "bh", "hb"]], [["zz"]], [["ac", "ca", "ah"]]]:
            before = copy.deepcopy(wrong)
            self.assertIs(is_house_ways(fork(), "a", wrong), False, wrong)
            self.assertEqual(wrong, before)
        net = Net("h", ["a", "b"], [("p", "a", "b"), ("q", "a", "b"), ("r", "b", "h"), ("s", "b", "h")])
        # The lines differ, but both ways enter b.
        self.assertIs(is_house_ways(net, "a", [["p", "r"], ["q", "s"]]), False)
        self.assertIs(is_house_ways(net, "b", [["r"], ["s"]]), True)

    def test_every_kind(self):
        for value in KINDS:
            for ways in [value, [value], [[value]], [["ah"], value]]:
                if ways not in ([], [[]], [["ah"], []]):
                    self.assertIs(is_house_ways(fork(), "a", ways), False, repr(ways))
        self.assertIs(is_house_ways(fork(), "a", [[]]), False)

    def test_nets_that_are_too_large_to_be_parted(self):
        self.assertIs(is_house_ways(wide(12), "n3", [["l3"]]), True)
        self.assertIs(is_house_ways(wide(12), "n3", [["l4"]]), False)
        self.assertIs(is_house_ways(dense(11, 30), "n0", [[f"l{k}"] for k in range(30)]), True)
        long = Net("h", [LONG], [(LONG, LONG, "h")])
        self.assertIs(is_house_ways(long, LONG, [[LONG]]), True)

    def test_errors(self):
        self.assertEqual(raised(is_house_ways, fork(), "zz", None), ("UnknownHouse", "zz"))
        self.assertEqual(raised(is_house_ways, fork(), "h", 5), ("BadLot", "h"))
        self.assertEqual(raised(is_house_ways, wide(12), "zz", []), ("UnknownHouse", "zz"))
        self.assertEqual(raised(is_house_ways, wide(12), "h", []), ("BadLot", "h"))


class IsHouseCutTest(unittest.TestCase):
    def test_against_all_papers(self):
        seen = set()
        for seed in range(40):
            net = random_net(seed, 3, 5)
            for house in net.others:
                for houses in subsets(net.houses):
                    for lines in subsets(net.line_names):
                        right = (house not in houses and net.home not in houses
                                 and not plain_open(net, house, houses, lines))
                        self.assertIs(is_house_cut(net, house, (houses, lines)), right)
                        seen.add((right, bool(houses), bool(lines)))
        self.assertEqual(len(seen), 8)

    def test_the_least_cut_is_accepted_as_every_other(self):
        for seed in range(40):
            net = random_net(seed, 3, 6)
            for house in net.others:
                least = min(len(houses) + len(lines) for houses in subsets(net.others) for lines in
                            subsets(net.line_names) if is_house_cut(net, house, (houses, lines)))
                self.assertEqual(least, len(house_ways(net, house)))
                self.assertIs(is_house_cut(net, house, ([], net.line_names)), True)

    def test_papers_near_a_right_one(self):
        lines = [("p", "a", "b"), ("q", "a", "c"), ("r", "b", "h"), ("s", "c", "h"), ("t", "b", "c")]
        net = Net("h", ["a", "b", "c"], lines)
        for paper in [(["b", "c"], []), ([], ["p", "q"]), (["b"], ["q"]), (["b"], ["s"]), ([], ["r", "s"]),
                      (["b", "c"], ["p", "t"])]:
            self.assertIs(is_house_cut(net, "a", paper), True, paper)
        for paper in [(["c", "b"], []), ([], ["q", "p"]), (["b"], []), ([], ["p"]), (["b", "b"], ["q"]),
                      (["a"], []), (["h"], []), (["a", "b", "c"], []), (["b", "c", "h"], []), (["b", "zz"], ["q"]),
                      ([], ["p", "q", "zz"]), (["b"], ["q", "q"]), [["b", "c"], []], (["b", "c"],),
                      (["b", "c"], [], []), (("b", "c"), []), (["b", "c"], ()), (["b", "c"], None), (None, ["p", "q"]),
                      ({"b": 1, "c": 2}, []), (["b", "c"], {}), (["p", "q"], []), ([], ["b", "c"])]:
            before = copy.deepcopy(paper)
            self.assertIs(is_house_cut(net, "a", paper), False, paper)
            self.assertEqual(paper, before)

    def test_every_kind(self):
        for value in KINDS:
            for paper in [value, (value, value), (["b"], value), (value, ["ac"]), ([value], []), ([], [value]),
                          (["b", value], ["ah"])]:
                if paper != ([], []):
                    self.assertIs(is_house_cut(fork(), "a", paper), False, repr(paper))
        self.assertIs(is_house_cut(fork(), "a", ([], [])), False)
        self.assertIs(is_house_cut(mixed(), "d", ([], [])), True)

    def test_nets_that_are_too_large_to_be_parted(self):
        self.assertIs(is_house_cut(chain(12), "n11", (["n05"], [])), True)
        self.assertIs(is_house_cut(chain(12), "n05", (["n11"], [])), False)
        self.assertIs(is_house_cut(wide(12), "n3", ([], ["l3"])), True)
        long = Net("h", [LONG], [(LONG, LONG, "h")])
        self.assertIs(is_house_cut(long, LONG, ([], [LONG])), True)

    def test_errors(self):
        self.assertEqual(raised(is_house_cut, fork(), "zz", None), ("UnknownHouse", "zz"))
        self.assertEqual(raised(is_house_cut, fork(), "h", 5), ("BadLot", "h"))
        self.assertEqual(raised(is_house_cut, wide(12), "zz", ([], [])), ("UnknownHouse", "zz"))
        self.assertEqual(raised(is_house_cut, wide(12), "h", ([], [])), ("BadLot", "h"))


class GatherTest(unittest.TestCase):
    def test_fork(self):
        net = gather_homes(fork(), ["b", "h"])
        self.assertEqual(net, Net("h", ["a", "c"], [("ac", "a", "c"), ("ah", "a", "h"), ("bc", "h", "c"),
                                                    ("bh", "h", "h"), ("ca", "c", "a"), ("cb", "c", "h")]))
        self.assertEqual(gather_homes(fork(), ["h"]), fork())
        everything = gather_homes(fork(), ["c", "h", "a", "b"])
        self.assertEqual(everything, Net("h", [], [(name, "h", "h") for name in fork().line_names]))

    def test_by_definition(self):
        for seed in range(40):
            net = random_net(seed)
            for chosen in subsets(net.others):
                homes = [*chosen, net.home]
                rows = [(name, "h" if tail in homes else tail, "h" if head in homes else head)
                        for name, tail, head in net.lines]
                told = Net("h", [house for house in net.others if house not in homes], rows)
                for order in (homes, homes[::-1]):
                    self.assertEqual(gather_homes(net, order), told)
                for lot in plain_lots(told):
                    self.assertEqual(plain_out(told, lot), plain_out(net, lot))

    def test_home_alone(self):
        self.assertEqual(gather_homes(alone(), ["h"]), alone())
        self.assertEqual(raised(gather_homes, alone(), []), ("Unlike", "homes"))

    def test_errors(self):
        self.assertEqual(raised(gather_homes, fork(), ["zz", "a", "zz", "a"]), ("Duplicate", "zz"))
        self.assertEqual(raised(gather_homes, fork(), ["y", "a", "a", "z"]), ("Duplicate", "a"))
        self.assertEqual(raised(gather_homes, fork(), ["h", "h"]), ("Duplicate", "h"))
        self.assertEqual(raised(gather_homes, fork(), ["a", "y", "z"]), ("UnknownHouse", "y"))
        self.assertEqual(raised(gather_homes, fork(), ["ah", "h"]), ("UnknownHouse", "ah"))
        self.assertEqual(raised(gather_homes, fork(), ["", "H"]), ("UnknownHouse", ""))
        self.assertEqual(raised(gather_homes, fork(), ["a", "b", "c"]), ("Unlike", "homes"))
        self.assertEqual(raised(gather_homes, fork(), []), ("Unlike", "homes"))
        self.assertIsNone(raised(gather_homes, fork(), ["c", "h", "a"]))


class FreshTest(unittest.TestCase):
    def test_arguments_and_results(self):
        for seed in range(40):
            net = random_net(seed)
            self.assertEqual(unharmed(self, part_houses, net), part_houses(remade(net)))
            homes = [net.home] + net.others[::-2]
            self.assertEqual(unharmed(self, gather_homes, net, homes), gather_homes(remade(net), list(homes)))
            for house in net.others:
                ways = unharmed(self, house_ways, net, house)
                self.assertEqual(ways, house_ways(remade(net), house))
                cut = unharmed(self, house_cut, net, house)
                self.assertEqual(cut, house_cut(remade(net), house))
                self.assertIs(unharmed(self, is_house_ways, net, house, ways), True)
                self.assertIs(unharmed(self, is_house_cut, net, house, cut), True)


if __name__ == "__main__":
    unittest.main()
