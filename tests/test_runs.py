import copy
import random
import unittest

from markshome.builder import build
from markshome.marks import holes, table_of
from markshome.runs import Run, is_run, lost, move_bound, run_letter, step
from markshome.tables import Table
from samples import (KINDS, alone, chain, fork, mixed, parts, plain_damages, plain_run, plain_strength, raised,
                     random_net, random_table, remade, strong_net, unharmed)

GROVE = [["ah", "bc", "ca"], ["ac", "bh", "cb"]]
TABLE = table_of(fork(), GROVE)
HOLED = Table(3, [("a", 0, "ah", 0), ("a", 1, "ac", 2), ("b", 0, "bc", None), ("c", 0, "ca", 1), ("c", 1, "cb", 0),
                  ("c", 2, "ca", None)])


def tables():
    """Nets with tables that fit, and some broken lines."""
    for seed in range(120):
        net = mixed() if seed % 6 == 0 else random_net(seed)
        chance = random.Random(seed)
        yield net, random_table(net, seed), [line for line in net.line_names if chance.random() < 0.3]


class StepTest(unittest.TestCase):
    def test_each_kind(self):
        self.assertEqual(step(fork(), TABLE, "h", 0), ("home", None, "h", 0))
        self.assertEqual(step(fork(), TABLE, "a", 0), ("pass", "ah", "h", 0))
        self.assertEqual(step(fork(), TABLE, "c", 1), ("pass", "cb", "b", 1))
        self.assertEqual(step(fork(), TABLE, "a", 0, broken=["ah"]), ("turn", "ah", "a", 1))
        self.assertEqual(step(fork(), TABLE, "a", 1, broken=["ac", "ah"]), ("stuck", "ac", "a", 1))
        self.assertEqual(step(fork(), TABLE, "a", 1, broken=["ah"]), ("pass", "ac", "c", 1))

    def test_holes(self):
        for house, mark in holes(fork(), HOLED):
            self.assertEqual(step(fork(), HOLED, house, mark), ("stuck", None, house, mark))
            self.assertEqual(step(fork(), HOLED, house, mark, broken=fork().line_names), ("stuck", None, house, mark))

    def test_marks_that_are_none_of_the_table(self):
        for mark in (2, 3, 98, 99):
            self.assertEqual(step(fork(), TABLE, "a", mark), ("stuck", None, "a", mark))
            self.assertEqual(step(fork(), TABLE, "h", mark), ("home", None, "h", mark))
            self.assertEqual(step(fork(), Table(0), "b", mark), ("stuck", None, "b", mark))

    def test_marks_of_any_order(self):
        self.assertEqual(step(fork(), HOLED, "a", 0, broken=("ah",)), ("turn", "ah", "a", 0))
        self.assertEqual(step(fork(), HOLED, "c", 1, broken=("cb",)), ("turn", "cb", "c", 0))
        self.assertEqual(step(fork(), HOLED, "a", 1, broken=("ac",)), ("turn", "ac", "a", 2))

    def test_loops(self):
        table = Table(2, [("a", 0, "aa", 1), ("a", 1, "a1", None)])
        self.assertEqual(step(mixed(), table, "a", 0), ("pass", "aa", "a", 0))
        self.assertEqual(step(mixed(), table, "a", 0, broken=["aa"]), ("turn", "aa", "a", 1))
        self.assertEqual(step(mixed(), table, "h", 0, broken=["hh"]), ("home", None, "h", 0))
        self.assertEqual(step(alone(), Table(2), "h", 1), ("home", None, "h", 1))

    def test_broken_in_any_order_with_repeats(self):
        for broken in (["bh", "ah", "bh"], ("ah", "ah", "bh")):
            self.assertEqual(step(fork(), TABLE, "a", 0, broken=broken), ("turn", "ah", "a", 1))


class RunLetterTest(unittest.TestCase):
    def test_fork(self):
        run = run_letter(fork(), TABLE, "c", broken=["ah"])
        self.assertEqual(run.moves, [("pass", "ca", "a", 0), ("turn", "ah", "a", 1), ("pass", "ac", "c", 1),
                                     ("pass", "cb", "b", 1), ("pass", "bh", "h", 1)])
        self.assertEqual([run.end, run.steps, run.turns, run.met, run.places],
                         ["home", 4, 1, ["ah"], ["c", "a", "c", "b", "h"]])
        self.assertEqual((run.start, run.mark, run.last), ("c", 0, ("h", 1)))

    def test_home_ahead_of_the_first_move(self):
        for mark in (0, 1, 2, 99):
            run = run_letter(fork(), TABLE, "h", mark=mark, broken=fork().line_names)
            self.assertEqual(run.paper, ("h", mark, "home", []))
        self.assertEqual(run_letter(alone(), Table(0), "h").paper, ("h", 0, "home", []))

    def test_stuck(self):
        run = run_letter(fork(), TABLE, "c", broken=["ah", "cb"])
        self.assertEqual(run.paper, ("c", 0, "stuck", [("pass", "ca", "a", 0), ("turn", "ah", "a", 1),
                                                       ("pass", "ac", "c", 1), ("stuck", "cb", "c", 1)]))
        self.assertEqual(run_letter(fork(), TABLE, "b", mark=2).paper, ("b", 2, "stuck", [("stuck", None, "b", 2)]))
        self.assertEqual(run_letter(fork(), HOLED, "b", mark=2).paper, ("b", 2, "stuck", [("stuck", None, "b", 2)]))

    def test_round(self):
        self.assertEqual(run_letter(fork(), HOLED, "a", broken=["ah"]).paper,
                         ("a", 0, "round", [("turn", "ah", "a", 0)]))
        self.assertEqual(run_letter(fork(), HOLED, "c", broken=["ah"]).paper,
                         ("c", 0, "round", [("pass", "ca", "a", 0), ("turn", "ah", "a", 0)]))
        table = Table(2, [("a", 0, "aa", 1), ("b", 0, "ba", 1), ("a", 1, "ab", None), ("b", 1, "ba", 0)])
        self.assertEqual(run_letter(mixed(), table, "a").paper, ("a", 0, "round", [("pass", "aa", "a", 0)]))
        self.assertEqual(run_letter(mixed(), table, "b").paper,
                         ("b", 0, "round", [("pass", "ba", "a", 0), ("pass", "aa", "a", 0)]))
        self.assertEqual(run_letter(mixed(), table, "a", mark=1).paper,
                         ("a", 1, "round", [("pass", "ab", "b", 1), ("pass", "ba", "a", 1)]))
        self.assertEqual(run_letter(mixed(), table, "b", broken=["ba"]).paper,
                         ("b", 0, "round", [("turn", "ba", "b", 1), ("turn", "ba", "b", 0)]))

    def test_by_definition(self):
        ends = set()
        for net, table, broken in tables():
            for house in net.houses:
                for mark in list(range(table.marks + 1)) + [99]:
                    run = run_letter(net, table, house, broken=broken, mark=mark)
                    self.assertIsInstance(run, Run)
                    self.assertEqual(run.paper, plain_run(net, table, house, mark, broken))
                    ends.add(run.end)
                self.assertEqual(run_letter(net, table, house), run_letter(net, table, house, broken=[], mark=0))
        self.assertEqual(ends, {"home", "stuck", "round"})

    def test_the_steps_of_a_run(self):
        for net, table, broken in tables():
            for house in net.others:
                run = run_letter(net, table, house, broken=broken)
                state = (house, 0)
                for move in run.moves:
                    self.assertEqual(step(net, table, *state, broken=broken), move)
                    state = move[2:]
                self.assertEqual(run.last, state)

    def test_broken_in_any_order_with_repeats(self):
        for broken in (["cb", "ah", "cb"], ("ah", "cb", "ah")):
            self.assertEqual(run_letter(fork(), TABLE, "c", broken=broken).end, "stuck")


class ErrorsTest(unittest.TestCase):
    def test_step_and_run_letter(self):
        wrong = Table(2, [("a", 1, "bh", None), ("b", 0, "zz", 0)])

        def run(net, table, house, mark, **more):
            return run_letter(net, table, house, mark=mark, **more)

        for call in (step, run):
            for mark in (-1, 100, 10 ** 59):
                self.assertEqual(raised(call, fork(), wrong, "z", mark, broken=["zz"]), ("OutOfRange", "mark", mark))
                self.assertEqual(raised(call, fork(), TABLE, "h", mark), ("OutOfRange", "mark", mark))
            for house in ("z", "ah", "", "A"):
                self.assertEqual(raised(call, fork(), wrong, house, 0, broken=["zz"]), ("UnknownHouse", house))
            self.assertEqual(raised(call, fork(), wrong, "a", 0, broken=["ah", "z", "y"]), ("UnknownLine", "z"))
            self.assertEqual(raised(call, fork(), wrong, "h", 99, broken=("a",)), ("UnknownLine", "a"))
            for house in ("a", "b", "c", "h"):
                self.assertEqual(raised(call, fork(), wrong, house, 99), ("BadTable", "a", 1))
            self.assertEqual(raised(call, fork(), Table(1, [("h", 0, "ah", None)]), "h", 0), ("BadTable", "h", 0))
            self.assertEqual(raised(call, alone(), wrong, "h", 0), ("BadTable", "a", 1))

    def test_lost(self):
        wrong = Table(2, [("a", 1, "bh", None)])
        self.assertEqual(raised(lost, fork(), wrong, broken=["ah", "h"]), ("UnknownLine", "h"))
        self.assertEqual(raised(lost, fork(), wrong, broken=["ah"]), ("BadTable", "a", 1))
        self.assertEqual(raised(lost, alone(), wrong), ("BadTable", "a", 1))


class RunTest(unittest.TestCase):
    MOVES = [("pass", "x", "a", 3), ("turn", None, "b", 0), ("odd", "y", "c", 7), ("stuck", "z", "d", 1),
             ("pass", None, "e", 2), ("home", "w", "h", 5), ("turn", "x", "f", 4), ("stuck", None, "g", 6),
             ("turn", "x", "f", 4)]

    def test_made_by_hand(self):
        run = Run("s", 9, "anywhere", self.MOVES)
        self.assertEqual((run.start, run.mark, run.end, run.moves), ("s", 9, "anywhere", self.MOVES))
        self.assertEqual(run.paper, ("s", 9, "anywhere", self.MOVES))
        self.assertEqual((run.steps, run.turns), (2, 3))
        self.assertEqual(run.met, ["z", "x", "x"])
        self.assertEqual(run.places, ["s", "a", "e"])
        self.assertEqual(run.last, ("f", 4))
        self.assertEqual(Run("s", 9, "", self.MOVES[:6]).last, ("h", 5))
        self.assertEqual(Run("s", 9, "", self.MOVES[:3]).last, ("c", 7))

    def test_without_moves(self):
        run = Run("s", 200, "round", [])
        self.assertEqual((run.steps, run.turns, run.met, run.places, run.last), (0, 0, [], ["s"], ("s", 200)))
        self.assertEqual(run.paper, ("s", 200, "round", []))

    def test_true_or_false(self):
        for end in ("home", "stuck", "round", "", "Home", "home ", "anywhere"):
            for moves in ([], self.MOVES):
                self.assertIs(bool(Run("s", 0, end, moves)), end == "home")

    def test_equal(self):
        run = Run("s", 9, "home", self.MOVES)
        self.assertIs(run == Run("s", 9, "home", list(self.MOVES)), True)
        self.assertIs(run != Run("s", 9, "home", list(self.MOVES)), False)
        for other in [Run("t", 9, "home", self.MOVES), Run("s", 8, "home", self.MOVES),
                      Run("s", 9, "stuck", self.MOVES), Run("s", 9, "home", self.MOVES[:-1]), fork(), TABLE]:
            self.assertIs(run == other, False)
            self.assertIs(other == run, False)
            self.assertIs(run != other, True)
        for value in KINDS + [run.paper, self.MOVES, "home"]:
            self.assertIs(run == value, False)

    def test_iteration(self):
        run = Run("s", 9, "home", self.MOVES)
        self.assertEqual(list(run), self.MOVES)
        self.assertEqual([(one, two) for one in run for two in run],
                         [(one, two) for one in self.MOVES for two in self.MOVES])
        self.assertEqual(list(Run("s", 0, "home", [])), [])

    def test_nothing_is_kept_and_every_list_is_new(self):
        moves = list(self.MOVES)
        run = Run("s", 9, "home", moves)
        moves.append(("pass", "x", "a", 3))
        moves[0] = None
        self.assertEqual(run.moves, self.MOVES)
        for read in (lambda: run.moves, lambda: run.paper[3], lambda: run.met, lambda: run.places):
            before = copy.deepcopy(read())
            read().append("spoilt")
            self.assertEqual(read(), before)
            self.assertIsNot(read(), read())
        self.assertEqual(list(run), self.MOVES)
        self.assertEqual(run.paper, ("s", 9, "home", self.MOVES))


class IsRunTest(unittest.TestCase):
    def test_right_papers(self):
        for net, table, broken in tables():
            for house in net.houses:
                for mark in list(range(table.marks + 1)) + [99]:
                    paper = plain_run(net, table, house, mark, broken)
                    self.assertIs(is_run(net, table, broken, paper), True)
                    self.assertIs(is_run(net, table, tuple(broken) * 2, paper), True)

    def test_other_damages(self):
        for net, table, broken in tables():
            for house in net.others:
                paper = plain_run(net, table, house, 0, broken)
                self.assertIs(is_run(net, table, [], paper), paper == plain_run(net, table, house, 0))

    def test_near_papers(self):
        moves = [("pass", "ca", "a", 0), ("turn", "ah", "a", 1), ("pass", "ac", "c", 1), ("pass", "cb", "b", 1),
                 ("pass", "bh", "h", 1)]
        right = ("c", 0, "home", moves)
        self.assertIs(is_run(fork(), TABLE, ["ah"], right), True)
        wrong = [("c", 0, "stuck", moves), ("c", 0, "round", moves), ("c", 1, "home", moves),
                 ("a", 0, "home", moves[1:]), ("c", 0, "home", moves[:-1]), ("c", 0, "home", moves[:1]),
                 ("c", 0, "home", moves + [("home", None, "h", 1)]), ("c", 0, "home", moves[1:]),
                 ("c", 0, "home", [moves[0], ("pass", "ah", "h", 0)]), ("c", False, "home", moves),
                 ("c", 0, "home", tuple(moves)), ["c", 0, "home", moves], ("c", 0, "home"), ("c", 0, "home", moves, 0),
                 ("c", 0, "home", [list(move) for move in moves]), (["c"], 0, "home", moves),
                 ("c", 0, "home", None), ("c", 0, None, moves), (None, 0, "home", moves), ("c", None, "home", moves),
                 ("c", "0", "home", moves), ({}, 0, "home", moves), ("c", 0, "home", {}), ("c", [], "home", moves)]
        for place, move in enumerate(moves):
            for other in [move[:3] + (bool(move[3]),), move[:3] + (5,), move[:2] + ("z",) + move[3:], move[:3],
                          ("stuck",) + move[1:], move[:1] + ("zz",) + move[2:], move + (0,), None, [move]]:
                wrong.append(("c", 0, "home", moves[:place] + [other] + moves[place + 1:]))
        for paper in wrong:
            before = copy.deepcopy(paper)
            self.assertIs(is_run(fork(), TABLE, ["ah"], paper), paper == ("a", 0, "home", moves[1:]), paper)
            self.assertEqual(paper, before)

    def test_wrong_beginnings(self):
        for start in ("z", "", "ah", None, [], {}, 0, ("a",)):
            self.assertIs(is_run(fork(), TABLE, [], (start, 2, "stuck", [("stuck", None, start, 2)])), False)
        for mark in (-1, 100, 10 ** 59, True, False, None, "0"):
            self.assertIs(is_run(fork(), TABLE, [], ("a", mark, "stuck", [("stuck", None, "a", mark)])), False)
            self.assertIs(is_run(fork(), TABLE, [], ("h", mark, "home", [])), False)
        self.assertIs(is_run(fork(), TABLE, [], ("a", 99, "stuck", [("stuck", None, "a", 99)])), True)
        self.assertIs(is_run(fork(), TABLE, [], ("h", 99, "home", [])), True)
        self.assertIs(is_run(fork(), TABLE, [], ("a", True, "round", [])), False)
        self.assertIs(is_run(fork(), TABLE, [], ("h", 0, "home", ())), False)

    def test_bools_in_moves(self):
        table = Table(2, [("a", 1, "ac", None)])
        self.assertIs(is_run(fork(), table, ["ac"], ("a", 1, "stuck", [("stuck", "ac", "a", 1)])), True)
        self.assertIs(is_run(fork(), table, ["ac"], ("a", 1, "stuck", [("stuck", "ac", "a", True)])), False)
        self.assertIs(is_run(fork(), table, [], ("a", 0, "stuck", [("stuck", None, "a", False)])), False)
        self.assertIs(is_run(fork(), table, [], ("a", 0, "stuck", [("stuck", None, "a", 0)])), True)

    def test_every_kind(self):
        for value in KINDS:
            for paper in [value, (value, 0, "home", []), ("a", value, "home", []), ("h", 0, value, []),
                          ("h", 0, "home", value), ("a", 0, "home", [value]), (value, value, value, value)]:
                before = copy.deepcopy(paper)
                right = paper == ("h", 0, "home", []) and paper[1] is not False
                self.assertIs(is_run(fork(), TABLE, [], paper), right and isinstance(paper, tuple), repr(paper))
                self.assertEqual(paper, before)

    def test_errors(self):
        wrong = Table(2, [("a", 1, "bh", None)])
        self.assertEqual(raised(is_run, fork(), wrong, ["ah", "z"], None), ("UnknownLine", "z"))
        self.assertEqual(raised(is_run, fork(), wrong, ("a",), None), ("UnknownLine", "a"))
        self.assertEqual(raised(is_run, fork(), wrong, ["ah"], None), ("BadTable", "a", 1))
        self.assertEqual(raised(is_run, alone(), wrong, [], ("h", 0, "home", [])), ("BadTable", "a", 1))


class BoundTest(unittest.TestCase):
    def test_bound(self):
        self.assertEqual([move_bound(fork(), turns) for turns in (0, 1, 2, 99)], [3, 6, 9, 300])
        self.assertEqual([move_bound(chain(12), turns) for turns in (0, 99)], [11, 1100])
        self.assertEqual([move_bound(alone(), turns) for turns in (0, 99)], [0, 0])

    def test_errors(self):
        for net in (fork(), alone()):
            for turns in (-1, 100, 10 ** 59):
                self.assertEqual(raised(move_bound, net, turns), ("OutOfRange", "turns", turns))


class PromiseTest(unittest.TestCase):
    def check(self, net, table, damage, house, mark):
        run = run_letter(net, table, house, broken=damage, mark=mark)
        left = max(table.marks - mark, 0)
        self.assertNotEqual(run.end, "round")
        self.assertEqual(len(run.met), len(set(run.met)))
        self.assertLessEqual(len(run.moves), move_bound(net, run.turns))
        if run.end == "stuck":
            self.assertEqual(len(run.met), left)
        if len(damage) < left:
            self.assertTrue(run)
        if mark > table.marks and house != net.home:
            self.assertEqual(run.moves, [("stuck", None, house, mark)])

    def test_every_damage(self):
        for seed in range(24):
            net = strong_net(seed, 1 + seed % 3, seed % 4, seed % 2)
            for count in range(min(4, plain_strength(net)) + 1):
                table = table_of(net, build(net, count)[0])
                damages = plain_damages(net, len(net.lines))
                # All damages of nets with at most 7 lines, and some of greater ones.
                for damage in damages if len(damages) <= 128 else damages[:60] + damages[60::17]:
                    for house in net.houses:
                        for mark in range(count + 2):
                            self.check(net, table, damage, house, mark)

    def test_large_net(self):
        net = strong_net(4, 11, 2, 8)
        table = table_of(net, build(net, 2)[0])
        for damage in plain_damages(net, 1):
            self.assertEqual(lost(net, table, broken=damage), [])
            for house in net.others:
                self.check(net, table, damage, house, 0)


class LostTest(unittest.TestCase):
    def test_fork(self):
        self.assertEqual(lost(fork(), TABLE), [])
        self.assertEqual(lost(fork(), TABLE, broken=["ah"]), [])
        self.assertEqual(lost(fork(), TABLE, broken=["ah", "bh"]), ["a", "b", "c"])
        self.assertEqual(lost(fork(), TABLE, broken=("bc", "bh", "bc")), ["b"])
        self.assertEqual(lost(fork(), Table(0)), ["a", "b", "c"])
        self.assertEqual(lost(alone(), Table(0), broken=["l1"]), [])

    def test_by_definition(self):
        for net, table, broken in tables():
            self.assertEqual(lost(net, table, broken=broken),
                             [house for house in net.others if plain_run(net, table, house, 0, broken)[2] != "home"])


class FreshTest(unittest.TestCase):
    def test_arguments_and_results(self):
        for net, table, broken in tables():
            again = Table(table.marks, tuple(reversed(table.entries)))
            self.assertEqual(unharmed(self, lost, net, table, broken=broken), lost(remade(net), again, broken=broken))
            for house in net.houses[:3]:
                run = unharmed(self, run_letter, net, table, house, broken=broken)
                self.assertEqual(run, run_letter(remade(net), again, house, broken=list(broken)))
                self.assertEqual(parts(plain_run(net, table, house, 0, broken)), [run.moves])
                move = unharmed(self, step, net, table, house, 0, broken=broken)
                self.assertEqual(step(remade(net), again, house, 0, broken=list(broken)), move)
                unharmed(self, is_run, net, table, broken, run.paper)


if __name__ == "__main__":
    unittest.main()
