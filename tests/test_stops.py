import copy
import unittest

from markshome.builder import build
from markshome.flows import strength, weakest_lot
from markshome.lots import lines_out
from markshome.marks import table_of
from markshome.nets import Net
from markshome.runs import run_letter
from markshome.stops import (all_damages, cut_damage, fewest_stop, first_stop, holds, is_cut, is_stop, longest,
                             starving, thin_stop)
from markshome.tables import Table
from markshome.ways import distance
from samples import (KINDS, alone, chain, fork, mixed, plain_damages, plain_run, plain_strength, plain_ways, raised,
                     random_net, random_table, remade, strong_net, unharmed)

GROVE = [["ah", "bc", "ca"], ["ac", "bh", "cb"]]
TABLE = table_of(fork(), GROVE)
WRONG = Table(2, [("a", 1, "bh", None)])


def made_cases():
    """Small nets with tables that fit: of groves, and with holes."""
    found = [(fork(), TABLE), (alone(), Table(2)), (Net("h"), Table(0)), (mixed(), Table(1, [("a", 0, "aa", 0)]))]
    for seed in range(30):
        net = strong_net(seed, 1 + seed % 3, seed % 3, seed % 3)
        found.append((net, table_of(net, build(net, min(plain_strength(net), seed % 3))[0])))
        found.append((net, random_table(net, seed)))
        net = random_net(seed, 4, 7)
        found.append((net, random_table(net, seed)))
    return found


CASES = made_cases()


def plain_stops(net, table, most):
    """All stops with at most so many lines, in order, by running every letter."""
    return [(damage, house) for damage in plain_damages(net, most) for house in net.others
            if plain_run(net, table, house, 0, damage)[2] != "home"]


def loops(many):
    """Home alone with so many loops."""
    return Net("h", [], [(f"l{k:02}", "h", "h") for k in range(many)])


class DamagesTest(unittest.TestCase):
    def test_fork(self):
        self.assertEqual(all_damages(fork(), 0), [[]])
        self.assertEqual(all_damages(fork(), 1), [[], ["ac"], ["ah"], ["bc"], ["bh"], ["ca"], ["cb"]])
        self.assertEqual(all_damages(fork(), 2)[7:9], [["ac", "ah"], ["ac", "bc"]])
        self.assertEqual(len(all_damages(fork(), 30)), 64)

    def test_by_definition(self):
        for net, _ in CASES:
            for most in (0, 1, 2, 3, 7, 30):
                if len(net.lines) <= 7 or most <= 2:
                    self.assertEqual(all_damages(net, most), plain_damages(net, min(most, len(net.lines))))

    def test_loops_and_lines_out_of_home_count(self):
        self.assertEqual(all_damages(alone(), 5), [[], ["l1"], ["l2"], ["l1", "l2"]])
        self.assertEqual(len(all_damages(mixed(), 1)), 11)
        self.assertEqual(all_damages(Net("h"), 30), [[]])

    def test_the_limit(self):
        # 1 + 19 + 171 = 191 and 1 + 20 + 190 = 211
        self.assertEqual(len(all_damages(loops(19), 2)), 191)
        self.assertEqual(raised(all_damages, loops(20), 2), ("TooMany", "damages", 211, 200))
        self.assertEqual(len(all_damages(loops(30), 1)), 31)
        self.assertEqual(raised(all_damages, loops(30), 2), ("TooMany", "damages", 466, 200))
        self.assertEqual(raised(all_damages, loops(30), 30), ("TooMany", "damages", 2 ** 30, 200))
        self.assertEqual(len(all_damages(loops(7), 30)), 128)
        self.assertEqual(raised(all_damages, loops(8), 30), ("TooMany", "damages", 256, 200))
        self.assertEqual(len(all_damages(loops(8), 4)), 163)
        self.assertEqual(raised(all_damages, loops(8), 5), ("TooMany", "damages", 219, 200))

    def test_errors_of_most(self):
        for call in (first_stop, holds, fewest_stop, longest):
            for most in (-1, 31, 10 ** 59, -10 ** 59):
                self.assertEqual(raised(all_damages, loops(30), most), ("OutOfRange", "most", most))
                self.assertEqual(raised(call, loops(30), WRONG, most), ("OutOfRange", "most", most))
                self.assertEqual(raised(call, Net("h"), Table(0), most), ("OutOfRange", "most", most))
            self.assertEqual(raised(call, loops(30), WRONG, 2), ("TooMany", "damages", 466, 200))
            self.assertEqual(raised(call, loops(20), Table(0), 2), ("TooMany", "damages", 211, 200))
            self.assertEqual(raised(call, loops(19), WRONG, 2), ("BadTable", "a", 1))
            self.assertEqual(raised(call, fork(), WRONG, 0), ("BadTable", "a", 1))
            self.assertIsNone(raised(call, Net("h"), Table(0), 30))

    def test_the_limit_holds_also_where_the_answer_is_clear(self):
        net = strong_net(1, 11, 2, 8)
        for call in (first_stop, holds, fewest_stop, longest):
            self.assertEqual(raised(call, net, Table(0), 2), ("TooMany", "damages", 466, 200))


class StopsTest(unittest.TestCase):
    def test_fork(self):
        self.assertIsNone(first_stop(fork(), TABLE, 1))
        self.assertEqual(first_stop(fork(), TABLE, 2), (["ac", "ah"], "a"))
        self.assertEqual([holds(fork(), TABLE, most) for most in (0, 1, 2, 30)], [True, True, False, False])
        self.assertEqual([fewest_stop(fork(), TABLE, most) for most in (0, 1, 2, 30)], [None, None, 2, 2])
        self.assertEqual(first_stop(fork(), Table(0), 0), ([], "a"))
        self.assertEqual(fewest_stop(fork(), Table(0), 0), 0)

    def test_the_first_damage_and_then_the_first_house(self):
        table = Table(1, [("a", 0, "ac", None), ("b", 0, "bh", None), ("c", 0, "cb", None)])
        self.assertEqual(first_stop(fork(), table, 1), (["ac"], "a"))
        table = Table(1, [("a", 0, "ah", None), ("b", 0, "bh", None), ("c", 0, "cb", None)])
        self.assertEqual(first_stop(fork(), table, 1), (["ah"], "a"))
        table = Table(2, [("a", 0, "ah", 1), ("a", 1, "ac", None), ("b", 0, "bh", None), ("b", 1, "bh", None),
                          ("c", 0, "cb", None), ("c", 1, "cb", None)])
        self.assertEqual(first_stop(fork(), table, 1), (["bh"], "b"))

    def test_home_alone(self):
        for most in (0, 2, 30):
            self.assertIsNone(first_stop(alone(), Table(0), most))
            self.assertIs(holds(alone(), Table(4), most), True)
            self.assertIsNone(fewest_stop(alone(), Table(0), most))

    def test_against_all_runs(self):
        met = []
        for net, table in CASES:
            for most in (0, 1, 2, 4, 30):
                if raised(all_damages, net, most):
                    continue
                stops = plain_stops(net, table, most)
                self.assertEqual(first_stop(net, table, most), stops[0] if stops else None)
                self.assertIs(holds(net, table, most), stops == [])
                self.assertEqual(fewest_stop(net, table, most), len(stops[0][0]) if stops else None)
                met.append(len(stops[0][0]) if stops else None)
        self.assertEqual(set(met), {None, 0, 1, 2})


class IsStopTest(unittest.TestCase):
    def test_against_all_runs(self):
        for net, table in CASES:
            for damage in plain_damages(net, len(net.lines))[:200]:
                for house in net.others:
                    right = plain_run(net, table, house, 0, damage)[2] != "home"
                    self.assertIs(is_stop(net, table, (damage, house)), right)
                self.assertIs(is_stop(net, table, (damage, net.home)), False)

    def test_damages_of_any_number_of_lines(self):
        net = strong_net(1, 11, 2, 8)
        table = table_of(net, build(net, 2)[0])
        self.assertIs(is_stop(net, table, (net.line_names, "x3")), True)
        self.assertIs(is_stop(net, table, (net.line_names[1:], "x3")), True)
        self.assertIs(is_stop(net, table, ([], "x3")), False)

    def test_wrong_papers(self):
        self.assertIs(is_stop(fork(), TABLE, (["ac", "ah"], "a")), True)
        wrong = [(["ah", "ac"], "a"), (["ac", "ah", "ah"], "a"), (["ac", "ah", "zz"], "a"), (["a", "ac", "ah"], "a"),
                 (("ac", "ah"), "a"), [["ac", "ah"], "a"], (["ac"], "b"), (["ac", "ah"], "h"),
                 (["ac", "ah"], "z"), (["ac", "ah"], ["a"]), (["ac", "ah"], None), (["ac", "ah"],),
                 (["ac", "ah"], "a", 0), ("a", ["ac", "ah"]), (["ac", ["ah"]], "a"), ([None], "a"), ([True], "a"),
                 ({"ac": 1, "ah": 2}, "a"), (None, "a"), ([], "a"), (["ah"], "a"), ("ac", "a"), ([{}], "a"),
                 (["ac", "ah"], {}), (["ac", "ah"], ("a",))]
        for paper in wrong:
            before = copy.deepcopy(paper)
            self.assertIs(is_stop(fork(), TABLE, paper), False, paper)
            self.assertEqual(paper, before)

    def test_every_kind(self):
        for value in KINDS:
            for paper in [value, (value, "a"), (["ac", "ah"], value), (value, value), ([value], "a")]:
                before = copy.deepcopy(paper)
                right = paper == (["ac", "ah"], "a")
                self.assertIs(is_stop(fork(), TABLE, paper), right, repr(paper))
                self.assertIs(is_cut(fork(), paper), right, repr(paper))
                self.assertIs(is_stop(alone(), Table(1), paper), False, repr(paper))
                self.assertIs(is_cut(alone(), paper), False, repr(paper))
                self.assertEqual(paper, before)
        self.assertEqual(raised(is_stop, fork(), WRONG, None), ("BadTable", "a", 1))
        self.assertEqual(raised(is_stop, alone(), WRONG, None), ("BadTable", "a", 1))


class StarvingTest(unittest.TestCase):
    def test_fork(self):
        self.assertEqual([starving(fork(), TABLE, house) for house in "abc"], [["ac", "ah"], ["bc", "bh"],
                                                                               ["ca", "cb"]])
        self.assertEqual(starving(fork(), Table(0), "a"), [])
        table = Table(3, [("a", 2, "ah", 0), ("a", 0, "ah", 1), ("b", 0, "bh", 0)])
        self.assertEqual([starving(fork(), table, house) for house in "abc"], [["ah"], ["bh"], []])

    def test_no_letter_leaves(self):
        for net, table in CASES:
            for house in net.others:
                damage = starving(net, table, house)
                self.assertEqual(damage, sorted(set(entry[2] for entry in table.entries if entry[0] == house)))
                self.assertLessEqual(len(damage), table.marks)
                self.assertIs(is_stop(net, table, (damage, house)), True)
                for mark in range(table.marks + 1):
                    run = run_letter(net, table, house, broken=damage, mark=mark)
                    self.assertIn(run.end, ("stuck", "round"))
                    self.assertEqual(run.places, [house])

    def test_tables_of_groves_bear_one_line_less_than_trees(self):
        for seed in range(20):
            net = strong_net(seed, 1 + seed % 3, seed % 4, 0)
            count = min(plain_strength(net), 3)
            table = table_of(net, build(net, count)[0])
            if count:
                self.assertIs(holds(net, table, count - 1), True)
            self.assertEqual(fewest_stop(net, table, count), count)

    def test_errors(self):
        for house in ("z", "ah", ""):
            self.assertEqual(raised(starving, fork(), WRONG, house), ("UnknownHouse", house))
        self.assertEqual(raised(starving, fork(), WRONG, "h"), ("BadLot", "h"))
        self.assertEqual(raised(starving, alone(), WRONG, "h"), ("BadLot", "h"))
        self.assertEqual(raised(starving, fork(), WRONG, "b"), ("BadTable", "a", 1))


class LongestTest(unittest.TestCase):
    def test_fork(self):
        self.assertEqual(longest(fork(), TABLE, 0), (3, [], "b"))
        self.assertEqual(longest(fork(), TABLE, 1), (6, ["ah"], "b"))
        self.assertIsNone(longest(fork(), Table(0), 1))
        self.assertIsNone(longest(alone(), Table(0), 2))

    def test_against_all_runs(self):
        met = 0
        for net, table in CASES:
            for most in (0, 1, 2, 30):
                if raised(all_damages, net, most):
                    continue
                runs = [(len(plain_run(net, table, house, 0, damage)[3]), damage, house)
                        for damage in plain_damages(net, min(most, len(net.lines))) for house in net.others
                        if plain_run(net, table, house, 0, damage)[2] == "home"]
                best = max(run[0] for run in runs) if runs else None
                self.assertEqual(longest(net, table, most), next((run for run in runs if run[0] == best), None))
                met += best is not None and best > 2
        self.assertGreater(met, 20)


class CutTest(unittest.TestCase):
    def test_cut_damage(self):
        self.assertEqual(cut_damage(fork()), ["ac", "ah"])
        self.assertEqual(cut_damage(mixed()), [])
        self.assertIsNone(cut_damage(alone()))
        self.assertIsNone(cut_damage(Net("h")))
        self.assertEqual(cut_damage(chain(12)), ["l01"])

    def test_every_net(self):
        for net in [case[0] for case in CASES] + [random_net(seed) for seed in range(60)]:
            if net.others == []:
                self.assertIsNone(cut_damage(net))
                continue
            damage = cut_damage(net)
            self.assertEqual(damage, lines_out(net, weakest_lot(net)))
            self.assertEqual(len(damage), strength(net))
            for house in weakest_lot(net):
                self.assertIs(is_cut(net, (damage, house)), True)

    def test_is_cut_against_all_ways(self):
        for net, _ in CASES[::2]:
            for damage in plain_damages(net, len(net.lines))[:150]:
                for house in net.others:
                    self.assertIs(is_cut(net, (damage, house)), plain_ways(net, house, damage) == [])
                self.assertIs(is_cut(net, (damage, net.home)), False)

    def test_large_net(self):
        net = strong_net(1, 11, 2, 8)
        self.assertIs(is_cut(net, (net.line_names, "x1")), True)
        self.assertIs(is_cut(net, ([], "x1")), False)
        self.assertIs(is_cut(net, (cut_damage(net), weakest_lot(net)[0])), True)

    def test_every_cut_is_a_stop(self):
        for net, table in CASES:
            for damage in plain_damages(net, len(net.lines))[:60]:
                for house in net.others:
                    if is_cut(net, (damage, house)):
                        self.assertIs(is_stop(net, table, (damage, house)), True)
                        self.assertIsNone(distance(net, house, broken=damage))

    def test_wrong_papers(self):
        self.assertIs(is_cut(fork(), (["ah", "bh"], "c")), True)
        for paper in [(["bh", "ah"], "c"), (["ah", "bh", "bh"], "c"), (["ah", "bh", "zz"], "c"), (("ah", "bh"), "c"),
                      [["ah", "bh"], "c"], (["ah", "bh"], "h"), (["ah", "bh"], "z"), (["ah", "bh"], ["c"]),
                      (["ah", "bh"],), (["ah", "bh"], "c", "c"), (["ah"], "c"), (["ah", ["bh"]], "c"), None]:
            before = copy.deepcopy(paper)
            self.assertIs(is_cut(fork(), paper), False, paper)
            self.assertEqual(paper, before)


class ThinStopTest(unittest.TestCase):
    def test_fork(self):
        self.assertEqual(thin_stop(fork(), TABLE, ["bh", "ah", "bh"], "a"), (["ah", "bh"], "a"))
        self.assertEqual(thin_stop(fork(), TABLE, fork().line_names, "a"), (["ac", "ah"], "a"))
        self.assertEqual(thin_stop(fork(), TABLE, ["cb", "ca", "ah"], "b"), (["ca", "cb"], "b"))
        self.assertEqual(thin_stop(fork(), Table(0), [], "c"), ([], "c"))

    def test_every_stop(self):
        met = 0
        for net, table in CASES:
            for damage in plain_damages(net, len(net.lines))[:120]:
                for house in net.others:
                    start, mark, end, moves = plain_run(net, table, house, 0, damage)
                    given = damage[::-1] + damage[:1]
                    if end == "home":
                        self.assertEqual(raised(thin_stop, net, table, given, house), ("Unlike", "stop"))
                        continue
                    thin = thin_stop(net, table, given, house)
                    lines = sorted(set(move[1] for move in moves if move[0] in ("turn", "stuck")) - {None})
                    self.assertEqual(thin, (lines, house))
                    self.assertLessEqual(set(lines), set(damage))
                    self.assertIs(is_stop(net, table, thin), True)
                    self.assertEqual(plain_run(net, table, house, 0, lines), (start, mark, end, moves))
                    met += len(lines) < len(damage)
        self.assertGreater(met, 100)

    def test_errors(self):
        self.assertEqual(raised(thin_stop, fork(), WRONG, ["zz"], "z"), ("UnknownHouse", "z"))
        self.assertEqual(raised(thin_stop, fork(), WRONG, ["ah", "zz", "yy"], "h"), ("UnknownLine", "zz"))
        self.assertEqual(raised(thin_stop, fork(), WRONG, ["ah"], "h"), ("BadLot", "h"))
        self.assertEqual(raised(thin_stop, alone(), WRONG, ["l1"], "h"), ("BadLot", "h"))
        self.assertEqual(raised(thin_stop, fork(), WRONG, ["ah"], "a"), ("BadTable", "a", 1))
        self.assertEqual(raised(thin_stop, fork(), TABLE, ["ah"], "a"), ("Unlike", "stop"))
        self.assertEqual(raised(thin_stop, fork(), TABLE, [], "c"), ("Unlike", "stop"))


class FreshTest(unittest.TestCase):
    def test_arguments_and_results(self):
        for net, table in CASES[::3]:
            again = Table(table.marks, tuple(reversed(table.entries)))
            self.assertEqual(unharmed(self, all_damages, net, 1), all_damages(remade(net), 1))
            for call in (first_stop, holds, fewest_stop, longest):
                self.assertEqual(unharmed(self, call, net, table, 1), call(remade(net), again, 1))
            self.assertEqual(unharmed(self, cut_damage, net), cut_damage(remade(net)))
            for house in net.others:
                self.assertEqual(unharmed(self, starving, net, table, house), starving(remade(net), again, house))
                damage = starving(net, table, house)
                stop = unharmed(self, thin_stop, net, table, damage, house)
                self.assertEqual(thin_stop(remade(net), again, list(damage), house), stop)
                unharmed(self, is_stop, net, table, stop)
                unharmed(self, is_cut, net, stop)


if __name__ == "__main__":
    unittest.main()
