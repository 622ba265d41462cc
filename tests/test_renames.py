import copy
import itertools
import random
import unittest

from markshome.builder import build
from markshome.flows import strength
from markshome.marks import table_of
from markshome.nets import Net
from markshome.renames import (alike, chained, find_renaming, is_renaming, rename_grove, rename_lines, rename_net,
                               rename_run, rename_table, turned)
from markshome.runs import Run, run_letter
from markshome.tables import Table
from markshome.trees import is_grove
from samples import (KINDS, alone, fork, mixed, raised, random_net, random_table, remade, strong_net, unharmed)

TREES = [["ah", "bc", "ca"], ["ac", "bh", "cb"]]
HOUSES = {"a": "y", "b": "x", "c": "h", "h": "a"}
LINES = {"ac": "l6", "ah": "l5", "bc": "l4", "bh": "l3", "ca": "ah", "cb": "l1"}
RENAMING = (HOUSES, LINES)
WRONG = ({"a": "b"}, {})
LOOSE = Table(2, [("a", 1, "bh", None)])


def some_names(chance, many):
    """So many different names, some of them like those of the nets here."""
    pool = [letter + sign for letter in "hxyl" for sign in ["", "0", "1", "2", "77", "abcdefg"]]
    return chance.sample(pool, many) if many <= len(pool) else [f"m{k}" for k in range(many)]


def some_renaming(net, seed):
    """A renaming of the net by chance, with its keys in any order."""
    chance = random.Random(seed)
    found = []
    for names in (net.houses, net.line_names):
        chance.shuffle(names)
        found.append(dict(zip(names, some_names(chance, len(names)))))
    return tuple(found)


def plain_renamed(net, renaming):
    """The net with the new names, line by line."""
    houses, lines = renaming
    return Net(houses[net.home], [houses[house] for house in net.others],
               [(lines[name], houses[tail], houses[head]) for name, tail, head in net.lines])


def plain_alike(first, second):
    """True if some choice of new names for the houses gives as many lines between all of them."""
    if len(first.houses) != len(second.houses):
        return False
    for order in itertools.permutations(second.others):
        houses = {first.home: second.home, **dict(zip(first.others, order))}
        ends = sorted((houses[tail], houses[head]) for _, tail, head in first.lines)
        if ends == sorted((tail, head) for _, tail, head in second.lines):
            return True
    return False


def wide(many):
    """A net of so many houses with home."""
    return Net("h", [f"n{k}" for k in range(many - 1)])


class IsRenamingTest(unittest.TestCase):
    def test_right_ones(self):
        self.assertIs(is_renaming(fork(), RENAMING), True)
        same = ({house: house for house in "abch"}, {line: line for line in fork().line_names})
        self.assertIs(is_renaming(fork(), same), True)
        # A house and a line may get the same name.
        self.assertIs(is_renaming(alone(), ({"h": "x"}, {"l1": "x", "l2": "h"})), True)
        self.assertIs(is_renaming(Net("h"), ({"h": "abcdefgh"}, {})), True)
        for seed in range(20):
            net = random_net(seed)
            self.assertIs(is_renaming(net, some_renaming(net, seed)), True)

    def test_wrong_ones(self):
        houses, lines = RENAMING
        fewer = {"a": "y", "b": "x", "c": "h"}
        for wrong in [[houses, lines], (houses,), (houses, lines, {}), (lines, houses), (houses, houses), ({}, {}),
                      (fewer, lines), ({**houses, "d": "q"}, lines), ({**fewer, "zz": "a"}, lines),
                      ({**houses, "a": "x"}, lines), ({**houses, "a": "A"}, lines), ({**houses, "a": ""}, lines),
                      ({**houses, "a": "abcdefghi"}, lines), ({**houses, "a": None}, lines),
                      ({**houses, "a": ["y"]}, lines), ({**houses, "a": 1}, lines), ({**houses, "a": {"y": 1}}, lines),
                      (houses, {**lines, "ah": "l6"}), (houses, {**lines, "ah": "6"}), (houses, {**lines, "zz": "q"}),
                      (houses, {line: lines[line] for line in list(lines)[1:]}), (houses, list(lines)),
                      (list(houses.items()), lines), ({**fewer, None: "a"}, lines), ({**fewer, True: "a"}, lines),
                      ({**fewer, ("h",): "a"}, lines), (houses, {**lines, "ah": True}), None, {}, (None, None),
                      (houses, {**lines, "ah": ("l5",)}), {"a": "b"}, (houses, None), (None, lines)]:
            before = copy.deepcopy(wrong)
            self.assertIs(is_renaming(fork(), wrong), False, wrong)
            self.assertEqual(wrong, before)

    def test_every_kind(self):
        houses, lines = RENAMING
        for value in KINDS:
            for renaming in [value, (value, value), (houses, value), (value, lines), ({**houses, "a": value}, lines),
                             (houses, {**lines, "ah": value}), [value]]:
                told = renaming == (houses, {**lines, "ah": "a"})
                self.assertIs(is_renaming(fork(), renaming), told, repr(renaming))


class UnlikeTest(unittest.TestCase):
    def test_a_wrong_renaming(self):
        table = table_of(fork(), TREES)
        run = run_letter(fork(), table, "a")
        for wrong in [WRONG, ({}, {}), (HOUSES, {}), ({}, LINES), ({**HOUSES, "a": "x"}, LINES),
                      (HOUSES, {**LINES, "zz": "q"}), ({**HOUSES, "a": "A"}, LINES)]:
            for call in [lambda: rename_net(fork(), wrong), lambda: rename_lines(fork(), [], wrong),
                         lambda: rename_grove(fork(), [], wrong), lambda: rename_table(fork(), table, wrong),
                         lambda: rename_run(fork(), run, wrong), lambda: turned(fork(), wrong),
                         lambda: chained(fork(), wrong, wrong), lambda: chained(fork(), wrong, RENAMING),
                         lambda: alike(fork(), table, table, wrong)]:
                self.assertEqual(raised(call), ("Unlike", "renaming"))


class RenameTest(unittest.TestCase):
    def test_net(self):
        self.assertEqual(rename_net(fork(), RENAMING), Net("a", ["y", "x", "h"], [
            ("l6", "y", "h"), ("l5", "y", "a"), ("l4", "x", "h"), ("l3", "x", "a"), ("ah", "h", "y"),
            ("l1", "h", "x")]))
        for seed in range(40):
            net = random_net(seed)
            renaming = some_renaming(net, seed)
            self.assertEqual(rename_net(net, renaming), plain_renamed(net, renaming))
        self.assertEqual(rename_net(alone(), ({"h": "x"}, {"l1": "b", "l2": "a"})),
                         Net("x", [], [("b", "x", "x"), ("a", "x", "x")]))

    def test_lines(self):
        self.assertEqual(rename_lines(fork(), ["cb", "ah", "ca", "cb"], RENAMING), ["l1", "l5", "ah", "l1"])
        self.assertEqual(rename_lines(fork(), [], RENAMING), [])
        for renaming in (RENAMING, WRONG):
            self.assertEqual(raised(rename_lines, fork(), ["ah", "l5", "zz"], renaming), ("UnknownLine", "l5"))
            self.assertEqual(raised(rename_lines, fork(), ["", "a"], renaming), ("UnknownLine", ""))

    def test_grove(self):
        self.assertEqual(rename_grove(fork(), TREES, RENAMING), [["ah", "l4", "l5"], ["l1", "l3", "l6"]])
        self.assertEqual(rename_grove(fork(), [], RENAMING), [])
        self.assertEqual(rename_grove(alone(), [[], []], ({"h": "x"}, {"l1": "b", "l2": "a"})), [[], []])
        for seed in range(40):
            net = strong_net(seed, 1 + seed % 4, 1 + seed % 3, 1)
            renaming = some_renaming(net, seed)
            grove = build(net, 1 + seed % 3)[0]
            told = rename_grove(net, grove, renaming)
            self.assertEqual(told, [sorted(renaming[1][line] for line in tree) for tree in grove])
            self.assertIs(is_grove(rename_net(net, renaming), told), True)
        self.assertEqual(raised(rename_grove, fork(), [["zz"]] * 5, WRONG), ("TooMany", "trees", 5, 4))
        self.assertEqual(raised(rename_grove, fork(), [TREES[0], ["zz"]], WRONG), ("BadTree", 1))
        self.assertEqual(raised(rename_grove, fork(), [TREES[0], TREES[0]], RENAMING), ("BadTree", 1))

    def test_table(self):
        table = Table(3, [("a", 2, "ah", 0), ("a", 0, "ac", None), ("c", 1, "cb", 1)])
        self.assertEqual(rename_table(fork(), table, RENAMING),
                         Table(3, [("y", 2, "l5", 0), ("y", 0, "l6", None), ("h", 1, "l1", 1)]))
        self.assertEqual(rename_table(fork(), Table(4), RENAMING), Table(4))
        self.assertEqual(raised(rename_table, fork(), LOOSE, WRONG), ("BadTable", "a", 1))
        self.assertEqual(raised(rename_table, fork(), LOOSE, RENAMING), ("BadTable", "a", 1))
        self.assertEqual(raised(rename_table, fork(), Table(1, [("h", 0, "ah", None)]), RENAMING), ("BadTable", "h", 0))

    def test_run(self):
        run = Run("c", 2, "stuck", [("turn", "ca", "c", 1), ("pass", "cb", "b", 1), ("stuck", None, "b", 1)])
        told = rename_run(fork(), run, RENAMING)
        self.assertIsInstance(told, Run)
        self.assertEqual(told.paper, ("h", 2, "stuck", [("turn", "ah", "h", 1), ("pass", "l1", "x", 1),
                                                        ("stuck", None, "x", 1)]))
        # A run by hand may have any kinds, marks and end.
        run = Run("h", 99, "", [("fly", "ah", "h", 70), ("", None, "c", -3)])
        self.assertEqual(rename_run(fork(), run, RENAMING).paper, ("a", 99, "", [("fly", "l5", "a", 70),
                                                                                 ("", None, "h", -3)]))
        self.assertEqual(rename_run(fork(), Run("a", 0, "round", []), RENAMING), Run("y", 0, "round", []))

    def test_run_errors(self):
        for renaming in (RENAMING, WRONG):
            run = Run("y", 0, "home", [("pass", "zz", "x", 0), ("pass", "ah", "h", 0)])
            self.assertEqual(raised(rename_run, fork(), run, renaming), ("UnknownHouse", "y"))
            run = Run("a", 0, "home", [("pass", "zz", "b", 0), ("pass", "zy", "x", 0), ("pass", "ah", "y", 0)])
            self.assertEqual(raised(rename_run, fork(), run, renaming), ("UnknownHouse", "x"))
            run = Run("a", 0, "home", [("stuck", None, "b", 0), ("pass", "zy", "c", 0), ("pass", "zz", "h", 0)])
            self.assertEqual(raised(rename_run, fork(), run, renaming), ("UnknownLine", "zy"))
            run = Run("a", 0, "home", [("pass", "a", "c", 0)])
            self.assertEqual(raised(rename_run, fork(), run, renaming), ("UnknownLine", "a"))
        self.assertEqual(raised(rename_run, fork(), Run("a", 0, "home", []), WRONG), ("Unlike", "renaming"))

    def test_the_run_of_a_renamed_table(self):
        ends = set()
        for seed in range(80):
            chance = random.Random(seed)
            net = random_net(seed) if seed % 2 else strong_net(seed, 1 + seed % 4, 1 + seed % 3, 2)
            count = 0 if not net.others else strength(net)
            table = random_table(net, seed) if seed % 3 else table_of(net, build(net, min(4, count))[0])
            renaming = some_renaming(net, seed)
            other = rename_net(net, renaming)
            new = rename_table(net, table, renaming)
            self.assertIs(alike(net, table, new, renaming), True)
            for _ in range(4):
                broken = chance.sample(net.line_names, min(len(net.line_names), chance.randint(0, 4)))
                for house, mark in itertools.product(net.houses, (0, 1)):
                    run = run_letter(net, table, house, broken=broken, mark=mark)
                    told = run_letter(other, new, renaming[0][house], broken=rename_lines(net, broken, renaming),
                                      mark=mark)
                    self.assertEqual(rename_run(net, run, renaming), told)
                    ends.add(run.end)
        self.assertEqual(ends, {"home", "stuck", "round"})


class TurnedTest(unittest.TestCase):
    def test_turned(self):
        back = turned(fork(), RENAMING)
        self.assertEqual(back, ({"y": "a", "x": "b", "h": "c", "a": "h"},
                                {"l6": "ac", "l5": "ah", "l4": "bc", "l3": "bh", "ah": "ca", "l1": "cb"}))
        self.assertIs(is_renaming(rename_net(fork(), RENAMING), back), True)
        for seed in range(40):
            net = random_net(seed)
            renaming = some_renaming(net, seed)
            back = turned(net, renaming)
            other = rename_net(net, renaming)
            self.assertEqual(rename_net(other, back), net)
            self.assertEqual(turned(other, back), renaming)
            self.assertEqual(rename_lines(other, rename_lines(net, net.line_names, renaming), back), net.line_names)
            nothing = chained(net, renaming, back)
            self.assertEqual(nothing, ({house: house for house in net.houses},
                                       {line: line for line in net.line_names}))

    def test_chained(self):
        for seed in range(40):
            net = random_net(seed)
            first = some_renaming(net, seed)
            other = rename_net(net, first)
            second = some_renaming(other, seed + 100)
            both = chained(net, first, second)
            self.assertIs(is_renaming(net, both), True)
            self.assertEqual(both, tuple({name: second[place][first[place][name]] for name in first[place]}
                                         for place in (0, 1)))
            self.assertEqual(rename_net(net, both), rename_net(other, second))

    def test_chained_errors(self):
        other = rename_net(fork(), RENAMING)
        back = turned(fork(), RENAMING)
        self.assertEqual(raised(chained, fork(), back, WRONG), ("Unlike", "renaming"))
        self.assertEqual(raised(chained, fork(), RENAMING, WRONG), ("Unlike", "second"))
        self.assertEqual(raised(chained, fork(), RENAMING, RENAMING), ("Unlike", "second"))
        self.assertEqual(raised(chained, fork(), RENAMING, (back[0], LINES)), ("Unlike", "second"))
        self.assertIsNone(raised(chained, fork(), RENAMING, back))
        self.assertIsNone(raised(chained, other, back, RENAMING))


class FindTest(unittest.TestCase):
    def test_nets_that_are_alike(self):
        for seed in range(80):
            net = random_net(seed, 5, 12)
            other = plain_renamed(net, some_renaming(net, seed))
            found = find_renaming(net, other)
            self.assertIs(is_renaming(net, found), True)
            self.assertEqual(rename_net(net, found), other)

    def test_against_all_choices(self):
        told = []
        for seed in range(60):
            chance = random.Random(seed)
            net = random_net(seed, 3, 5)
            name, tail, head = (net.lines or [("x", "h", "h")])[0]
            moved = (name, chance.choice(net.houses), chance.choice(net.houses))
            for other in [random_net(seed + 1, 3, 5), Net("h", net.others, net.lines[1:] + [moved]),
                          Net("h", net.others, net.lines[1:]), Net("h", net.others + ["x9"], net.lines),
                          Net("h", net.others, [(name, head, tail) for name, tail, head in net.lines])]:
                found = find_renaming(net, other)
                self.assertEqual(found is not None, plain_alike(net, other))
                if found is not None:
                    self.assertEqual(rename_net(net, found), other)
                told.append(found is not None)
        self.assertGreater(told.count(True), 30)
        self.assertGreater(told.count(False), 30)

    def test_home_stays_home(self):
        first = Net("h", ["a"], [("x", "a", "h")])
        self.assertIsNone(find_renaming(first, Net("a", ["h"], [("x", "a", "h")])))
        self.assertEqual(find_renaming(first, Net("a", ["h"], [("x", "h", "a")])), ({"h": "a", "a": "h"}, {"x": "x"}))

    def test_loops_and_lines_with_equal_ends(self):
        first = Net("h", ["a", "b"], [("p", "a", "h"), ("q", "a", "h"), ("r", "b", "b"), ("s", "h", "h")])
        other = Net("h", ["a", "b"], [("q", "b", "h"), ("p", "b", "h"), ("t", "a", "a"), ("r", "h", "h")])
        found = find_renaming(first, other)
        self.assertEqual(rename_net(first, found), other)
        self.assertEqual(found[0], {"h": "h", "a": "b", "b": "a"})
        self.assertIsNone(find_renaming(first, Net("h", ["a", "b"], [("q", "b", "h"), ("p", "b", "h"),
                                                                     ("t", "b", "b"), ("r", "h", "h")])))
        self.assertIsNone(find_renaming(first, Net("h", ["a", "b"], [("q", "b", "h"), ("p", "b", "h"),
                                                                     ("t", "a", "a"), ("r", "h", "a")])))
        self.assertIsNone(find_renaming(first, other - ["r"]))
        self.assertIsNone(find_renaming(alone(), Net("h", [], [("x", "h", "h")])))
        self.assertEqual(rename_net(alone(), find_renaming(alone(), Net("x", [], [("a", "x", "x"), ("b", "x", "x")]))),
                         Net("x", [], [("a", "x", "x"), ("b", "x", "x")]))

    def test_the_limit(self):
        self.assertEqual(find_renaming(wide(6), wide(6))[0]["h"], "h")
        self.assertIsNone(find_renaming(wide(6), wide(5)))
        self.assertIsNone(find_renaming(wide(1), wide(2)))
        self.assertEqual(raised(find_renaming, wide(7), wide(12)), ("TooMany", "houses", 7, 6))
        self.assertEqual(raised(find_renaming, wide(12), wide(7)), ("TooMany", "houses", 12, 6))
        self.assertEqual(raised(find_renaming, wide(6), wide(7)), ("TooMany", "houses", 7, 6))
        self.assertEqual(raised(find_renaming, wide(1), wide(12)), ("TooMany", "houses", 12, 6))
        self.assertEqual(raised(find_renaming, wide(7), wide(1)), ("TooMany", "houses", 7, 6))


class AlikeTest(unittest.TestCase):
    def test_tables(self):
        first = Table(2, [("a", 0, "ah", 1), ("b", 1, "bh", None)])
        second = Table(2, [("x", 1, "l3", None), ("y", 0, "l5", 1)])
        self.assertIs(alike(fork(), first, second, RENAMING), True)
        for other in [Table(3, second.entries), Table(2, second.entries[:1]), Table(2), first,
                      Table(2, [("x", 1, "l3", None), ("y", 0, "l5", None)]),
                      Table(2, [("x", 1, "l3", 0), ("y", 0, "l5", 1)]),
                      Table(2, [("x", 1, "l3", None), ("y", 0, "l6", 1)]),
                      Table(2, second.entries + [("zz", 0, "zz", None)])]:
            self.assertIs(alike(fork(), first, other, RENAMING), False)
        self.assertIs(alike(fork(), Table(2), Table(2), RENAMING), True)
        self.assertIs(alike(fork(), Table(2), Table(3), RENAMING), False)
        # The second table may be any.
        self.assertIs(alike(fork(), first, LOOSE, RENAMING), False)

    def test_errors(self):
        good = Table(1, [("a", 0, "ah", 0)])
        for other in (good, LOOSE):
            self.assertEqual(raised(alike, fork(), LOOSE, other, WRONG), ("BadTable", "a", 1))
            self.assertEqual(raised(alike, fork(), LOOSE, other, RENAMING), ("BadTable", "a", 1))
            self.assertEqual(raised(alike, fork(), good, other, WRONG), ("Unlike", "renaming"))
            self.assertIsNone(raised(alike, fork(), good, other, RENAMING))


class FreshTest(unittest.TestCase):
    def test_arguments_and_results(self):
        for seed in range(40):
            net = random_net(seed)
            again = remade(net)
            renaming = some_renaming(net, seed)
            other = tuple({name: part[name] for name in reversed(list(part))} for part in renaming)
            table = random_table(net, seed)
            same = Table(table.marks, table.entries[::-1])
            count = 0 if not net.others else min(4, strength(net))
            grove = build(net, count)[0]
            names = net.line_names[::-1] * 2
            self.assertIs(unharmed(self, is_renaming, net, renaming), True)
            self.assertEqual(unharmed(self, rename_net, net, renaming), rename_net(again, other))
            self.assertEqual(unharmed(self, rename_lines, net, names, renaming), rename_lines(again, names, other))
            self.assertEqual(unharmed(self, rename_grove, net, grove, renaming), rename_grove(again, grove, other))
            new = unharmed(self, rename_table, net, table, renaming)
            self.assertEqual(new, rename_table(again, same, other))
            self.assertIs(unharmed(self, alike, net, table, new, renaming), True)
            self.assertEqual(unharmed(self, turned, net, renaming), turned(again, other))
            second = some_renaming(rename_net(net, renaming), seed + 7)
            self.assertEqual(unharmed(self, chained, net, renaming, second), chained(again, other, second))
            for house in net.houses:
                run = run_letter(net, table, house)
                hand = Run(run.start, run.mark, run.end, run.moves)
                self.assertEqual(unharmed(self, rename_run, net, run, renaming), rename_run(again, hand, other))
            small = random_net(seed, 3, 8)
            changed = plain_renamed(small, some_renaming(small, seed))
            found = unharmed(self, find_renaming, small, changed)
            self.assertEqual(found, find_renaming(remade(small), remade(changed)))
        self.assertIsNone(unharmed(self, find_renaming, mixed(), fork()))


if __name__ == "__main__":
    unittest.main()
