import itertools
import unittest

from markshome.nets import Net, between
from samples import FORK_LINES, alone, fork, mixed, raised, remade, unharmed

TWELVE = [f"x{k}" for k in range(11)]
THIRTY = [(f"l{k}", "x0", "h") for k in range(30)]


class PropertiesTest(unittest.TestCase):
    def test_fork(self):
        net = Net("h", ["c", "a", "b"], list(reversed(FORK_LINES)))
        self.assertEqual(net.home, "h")
        self.assertEqual(net.houses, ["a", "b", "c", "h"])
        self.assertEqual(net.others, ["a", "b", "c"])
        self.assertEqual(net.lines, FORK_LINES)
        self.assertEqual(net.line_names, ["ac", "ah", "bc", "bh", "ca", "cb"])

    def test_home_is_sorted_among_the_houses(self):
        net = Net("b", ["c", "a"])
        self.assertEqual((net.houses, net.others), (["a", "b", "c"], ["a", "c"]))

    def test_home_alone(self):
        for net in [Net("h"), Net("h", (), ()), Net("h", [], [])]:
            self.assertEqual((net.home, net.houses, net.others), ("h", ["h"], []))
            self.assertEqual((net.lines, net.line_names, list(net)), ([], [], []))
        self.assertEqual(alone().lines, [("l1", "h", "h"), ("l2", "h", "h")])

    def test_every_reading_is_new(self):
        net = mixed()
        told = (net.houses, net.others, net.lines, net.line_names)
        for name in ["houses", "others", "lines", "line_names"]:
            first = getattr(net, name)
            self.assertIsNot(first, getattr(net, name))
            first.append("spoilt")
            first.reverse()
        self.assertEqual((net.houses, net.others, net.lines, net.line_names), told)
        self.assertEqual(net, mixed())

    def test_every_method_gives_a_new_list(self):
        net = mixed()
        for house in net.houses:
            unharmed(self, net.out, house)
            unharmed(self, net.into, house)

    def test_a_list_that_was_passed_in_may_change_later(self):
        houses = ["a", "b"]
        lines = [("x", "a", "b"), ("y", "b", "h")]
        net = Net("h", houses, lines)
        self.assertEqual((houses, lines), (["a", "b"], [("x", "a", "b"), ("y", "b", "h")]))
        houses.clear()
        lines.clear()
        self.assertEqual(net, Net("h", ["a", "b"], [("x", "a", "b"), ("y", "b", "h")]))
        self.assertEqual((net.out("a"), net.into("h")), (["x"], ["y"]))

    def test_lists_and_tuples_in_any_order(self):
        for houses in itertools.permutations(["a", "b", "c"]):
            for lines in itertools.permutations(FORK_LINES[:4]):
                net = Net("h", houses, list(lines))
                self.assertEqual(net, Net("h", list(houses), lines))
                self.assertEqual((net.houses, net.lines), (["a", "b", "c", "h"], FORK_LINES[:4]))


class MethodsTest(unittest.TestCase):
    def test_ends(self):
        net = mixed()
        self.assertEqual([(net.tail(line), net.head(line)) for line in net.line_names],
                         [(tail, head) for _, tail, head in net.lines])
        self.assertEqual((net.tail("ab"), net.head("ab")), ("a", "b"))
        self.assertEqual((net.tail("hh"), net.head("hh")), ("h", "h"))

    def test_ends_of_no_line(self):
        for text in ["a", "h", "", "zz", "A b"]:
            self.assertEqual(raised(mixed().tail, text), ("UnknownLine", text))
            self.assertEqual(raised(mixed().head, text), ("UnknownLine", text))

    def test_out(self):
        net = mixed()
        self.assertEqual(net.out("a"), ["a1", "a2", "aa", "ab"])
        self.assertEqual(net.out("b"), ["ba", "bd", "bh"])
        self.assertEqual(net.out("d"), [])
        self.assertEqual(net.out("h"), ["ha", "hb", "hh"])

    def test_into(self):
        net = mixed()
        self.assertEqual(net.into("a"), ["aa", "ba", "ha"])
        self.assertEqual(net.into("b"), ["ab", "hb"])
        self.assertEqual(net.into("d"), ["bd"])
        self.assertEqual(net.into("h"), ["a1", "a2", "bh", "hh"])

    def test_out_and_into_of_no_house(self):
        for text in ["aa", "", "zz", "A b"]:
            self.assertEqual(raised(mixed().out, text), ("UnknownHouse", text))
            self.assertEqual(raised(mixed().into, text), ("UnknownHouse", text))

    def test_has_house(self):
        net = mixed()
        for house in ["a", "b", "d", "h"]:
            self.assertIs(net.has_house(house), True)
        for text in ["aa", "", "c", "A", "a ", "a\n", "abcdefghi"]:
            self.assertIs(net.has_house(text), False)

    def test_a_house_and_a_line_may_have_the_same_name(self):
        net = Net("h", ["a"], [("a", "a", "h"), ("h", "h", "a")])
        self.assertEqual((net.out("a"), net.tail("a"), net.head("h")), (["a"], "a", "a"))


class ErrorsTest(unittest.TestCase):
    def test_bad_name_of_home(self):
        for text in ["", "A", "1", "abcdefghi", "a ", "a\n"]:
            self.assertEqual(raised(Net, text, ["B"], [("C", "D", "E")]), ("BadName", text))

    def test_bad_name_of_a_house(self):
        self.assertEqual(raised(Net, "h", ["a", "B", "C"], [("D", "E", "F")]), ("BadName", "B"))
        self.assertEqual(raised(Net, "h", ("a", "")), ("BadName", ""))

    def test_bad_name_in_a_line(self):
        self.assertEqual(raised(Net, "h", ["a"], [("x", "a", "h"), ("D", "E", "F")]), ("BadName", "D"))
        self.assertEqual(raised(Net, "h", ["a"], [("x", "E", "F"), ("D", "a", "h")]), ("BadName", "E"))
        self.assertEqual(raised(Net, "h", ["a"], (("x", "a", "F"), ("D", "a", "h"))), ("BadName", "F"))

    def test_limits_are_accepted(self):
        net = Net("h", TWELVE, THIRTY)
        self.assertEqual((len(net.houses), len(net.lines)), (12, 30))

    def test_too_many_houses(self):
        self.assertEqual(raised(Net, "h", TWELVE + ["y"], THIRTY * 2), ("TooMany", "houses", 13, 12))
        self.assertEqual(raised(Net, "h", ["a"] * 12), ("TooMany", "houses", 13, 12))
        self.assertEqual(raised(Net, "h", ("h",) * 20), ("TooMany", "houses", 21, 12))

    def test_too_many_lines(self):
        self.assertEqual(raised(Net, "h", TWELVE, THIRTY + [("y", "x0", "h")]), ("TooMany", "lines", 31, 30))
        self.assertEqual(raised(Net, "h", ["a", "a"], [("y", "z", "z")] * 31), ("TooMany", "lines", 31, 30))

    def test_texts_beyond_the_limits_are_looked_at(self):
        self.assertEqual(raised(Net, "h", TWELVE + ["y", "B"]), ("BadName", "B"))
        self.assertEqual(raised(Net, "h", TWELVE + ["y"], THIRTY + [("y", "x0", "H")]), ("BadName", "H"))

    def test_duplicate_house(self):
        self.assertEqual(raised(Net, "h", ["a", "h", "a"]), ("Duplicate", "h"))
        self.assertEqual(raised(Net, "h", ["a", "b", "b", "a"]), ("Duplicate", "b"))
        self.assertEqual(raised(Net, "h", ["a", "a"], [("x", "a", "h"), ("x", "a", "h")]), ("Duplicate", "a"))

    def test_duplicate_line(self):
        lines = [("x", "a", "h"), ("y", "a", "h"), ("y", "h", "a"), ("x", "z", "h")]
        self.assertEqual(raised(Net, "h", ["a"], lines), ("Duplicate", "y"))
        self.assertEqual(raised(Net, "h", ["a"], [("x", "a", "h"), ("x", "a", "h")]), ("Duplicate", "x"))

    def test_unknown_house(self):
        self.assertEqual(raised(Net, "h", ["a"], [("x", "a", "h"), ("y", "b", "c")]), ("UnknownHouse", "b"))
        self.assertEqual(raised(Net, "h", ["a"], [("x", "a", "c"), ("y", "b", "h")]), ("UnknownHouse", "c"))
        self.assertEqual(raised(Net, "h", (), [("x", "h", "x")]), ("UnknownHouse", "x"))

    def test_duplicate_ahead_of_unknown_house(self):
        self.assertEqual(raised(Net, "h", ["a"], [("x", "b", "h"), ("x", "a", "h")]), ("Duplicate", "x"))


class OperatorsTest(unittest.TestCase):
    def test_equal(self):
        for net in [fork(), mixed(), alone(), Net("h")]:
            self.assertIs(net == remade(net), True)
            self.assertIs(net != remade(net), False)

    def test_not_equal(self):
        others = [Net("h", ["a", "b", "c", "d"], FORK_LINES), Net("h", ["a", "b", "c"], FORK_LINES[:5]),
                  Net("h", ["a", "b", "c"], FORK_LINES[:5] + [("cx", "c", "b")]),
                  Net("h", ["a", "b", "c"], FORK_LINES[:5] + [("cb", "c", "h")]),
                  Net("h", ["a", "b", "c"], FORK_LINES[:5] + [("cb", "a", "b")]),
                  Net("a", ["h", "b", "c"], FORK_LINES)]
        for net in others:
            self.assertIs(fork() == net, False)
            self.assertIs(fork() != net, True)
        self.assertIs(Net("h") == Net("a"), False)

    def test_values_of_other_kinds(self):
        net = fork()
        for value in [None, True, 0, "h", "", [], net.lines, net.houses, (), {}, ("h", net.houses, net.lines)]:
            self.assertIs(net == value, False)
            self.assertIs(value == net, False)

    def test_minus(self):
        net = fork()
        self.assertEqual(net - ["cb", "ah", "cb"],
                         Net("h", ["a", "b", "c"], [line for line in FORK_LINES if line[0] not in ("cb", "ah")]))
        self.assertEqual(net - net.line_names, Net("h", ["a", "b", "c"]))
        self.assertEqual(net, fork())

    def test_minus_no_names(self):
        net = mixed()
        less = net - []
        self.assertEqual(less, net)
        self.assertEqual(less.out("a"), net.out("a"))

    def test_minus_loops_and_lines_out_of_home(self):
        self.assertEqual((mixed() - ["hh", "ha", "aa"]).line_names, ["a1", "a2", "ab", "ba", "bd", "bh", "hb"])
        self.assertEqual(alone() - ["l1"], Net("h", [], [("l2", "h", "h")]))

    def test_minus_leaves_its_arguments(self):
        names = ["cb", "ah", "cb"]
        unharmed(self, lambda net, gone: net - gone, fork(), names)

    def test_minus_unknown_line(self):
        self.assertEqual(raised(lambda: fork() - ["ah", "zz", "a"]), ("UnknownLine", "zz"))
        self.assertEqual(raised(lambda: fork() - ["a"]), ("UnknownLine", "a"))
        self.assertEqual(raised(lambda: fork() - ["ah", "A b"]), ("UnknownLine", "A b"))

    def test_in(self):
        net = fork()
        for line in net.line_names:
            self.assertIs(line in net, True)
        for text in ["a", "h", "", "zz", "A", "ah "]:
            self.assertIs(text in net, False)
            self.assertIs(text not in net, True)

    def test_iteration(self):
        self.assertEqual(list(remade(fork())), FORK_LINES)
        self.assertEqual([line for line in alone()], [("l1", "h", "h"), ("l2", "h", "h")])

    def test_one_iteration_within_another(self):
        net = fork()
        self.assertEqual([(one, other) for one in net for other in net],
                         list(itertools.product(FORK_LINES, repeat=2)))

    def test_a_net_is_true(self):
        self.assertTrue(Net("h"))


class BetweenTest(unittest.TestCase):
    def test_lines(self):
        net = mixed()
        self.assertEqual(between(net, "a", "h"), ["a1", "a2"])
        self.assertEqual(between(net, "h", "a"), ["ha"])
        self.assertEqual(between(net, "a", "b"), ["ab"])
        self.assertEqual(between(net, "d", "b"), [])

    def test_equal_houses(self):
        self.assertEqual(between(mixed(), "a", "a"), ["aa"])
        self.assertEqual(between(mixed(), "h", "h"), ["hh"])
        self.assertEqual(between(mixed(), "b", "b"), [])
        self.assertEqual(between(alone(), "h", "h"), ["l1", "l2"])

    def test_errors(self):
        self.assertEqual(raised(between, mixed(), "x", "y"), ("UnknownHouse", "x"))
        self.assertEqual(raised(between, mixed(), "a", "y"), ("UnknownHouse", "y"))
        self.assertEqual(raised(between, Net("h"), "h", "y"), ("UnknownHouse", "y"))
        self.assertEqual(raised(between, Net("h"), "aa", "h"), ("UnknownHouse", "aa"))

    def test_new_result(self):
        unharmed(self, between, mixed(), "a", "h")


if __name__ == "__main__":
    unittest.main()
