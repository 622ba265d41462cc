import copy
import random
import unittest

from markshome.builder import build
from markshome.diary import (Diary, arrival, calm_diary, ever_broken, is_timed_run, shifted, timed_run)
from markshome.marks import table_of
from markshome.runs import Run, is_run, move_bound, run_letter
from markshome.tables import Table
from samples import (KINDS, alone, fork, plain_broken, plain_run, plain_strength, plain_timed_run, raised,
                     random_net, random_table, remade, strong_net, unharmed)

TABLE = table_of(fork(), [["ah", "bc", "ca"], ["ac", "bh", "cb"]])
WRONG = Table(2, [("a", 1, "bh", None)])
EVENTS = [(0, "break", "x"), (3, "break", "y"), (3, "mend", "x"), (3, "break", "y"), (7, "mend", "y"),
          (7, "break", "y"), (99, "break", "x")]


def random_events(lines, seed, last=12, most=12):
    """Events of these lines in any order of moments."""
    chance = random.Random(seed)
    return [(chance.randint(0, last), chance.choice(["break", "break", "mend"]), chance.choice(lines))
            for _ in range(chance.randint(0, most))] if lines else []


def ordered(events):
    """The events by their moments; equal moments stay in their order."""
    return sorted(events, key=lambda event: event[0])


def made_cases():
    """Nets with tables that fit and diaries of their lines."""
    found = [(fork(), TABLE, []), (alone(), Table(2), [(1, "break", "l1")])]
    for seed in range(150):
        net = strong_net(seed, 1 + seed % 5, 1 + seed % 2, seed % 4) if seed % 3 else random_net(seed)
        table = random_table(net, seed)
        if seed % 3 == 1:
            table = table_of(net, build(net, min(plain_strength(net), seed % 4))[0])
        found.append((net, table, random_events(net.line_names, seed, 3 + seed % 9)))
    return found


CASES = made_cases()


class DiaryTest(unittest.TestCase):
    def test_any_order_list_or_tuple(self):
        for seed in range(40):
            events = random_events(["x", "y", "z"], seed, 5, 40)
            before = list(events)
            self.assertEqual(Diary(events).events, ordered(events))
            self.assertEqual(Diary(tuple(events)).events, ordered(events))
            self.assertEqual(Diary(tuple(events)), Diary(events))
            self.assertEqual(events, before)

    def test_equal_moments_keep_their_order(self):
        events = [(5, "mend", "b"), (5, "break", "b"), (5, "break", "a"), (5, "mend", "b"), (1, "mend", "z")]
        self.assertEqual(Diary(events).events, events[4:] + events[:4])
        self.assertNotEqual(Diary(events), Diary(events[::-1]))

    def test_last(self):
        self.assertEqual([Diary().last, Diary([]).last, Diary(()).events], [0, 0, []])
        self.assertEqual(Diary(EVENTS).last, 99)
        self.assertEqual(Diary(EVENTS[4::-1]).last, 7)
        self.assertEqual(Diary([(0, "mend", "x")]).last, 0)

    def test_equal(self):
        diary = Diary(EVENTS)
        self.assertIs(diary == Diary(tuple(EVENTS)), True)
        self.assertIs(diary != Diary(EVENTS), False)
        for other in [Diary(), Diary(EVENTS[:-1]), Diary(EVENTS[:3] + [(3, "mend", "y")] + EVENTS[4:]),
                      Diary(EVENTS[:1] + [EVENTS[2], EVENTS[1]] + EVENTS[3:]), fork(), TABLE]:
            self.assertIs(diary == other, False)
            self.assertIs(other == diary, False)
        for value in KINDS + [EVENTS, tuple(EVENTS)]:
            self.assertIs(diary == value, False)
            self.assertIs(Diary() == value, False)

    def test_sum(self):
        first = Diary([(3, "break", "x"), (1, "break", "y")])
        second = Diary([(3, "mend", "x"), (0, "break", "z"), (1, "mend", "y")])
        self.assertEqual((first + second).events, [(0, "break", "z"), (1, "break", "y"), (1, "mend", "y"),
                                                   (3, "break", "x"), (3, "mend", "x")])
        self.assertEqual((second + first).events, [(0, "break", "z"), (1, "mend", "y"), (1, "break", "y"),
                                                   (3, "mend", "x"), (3, "break", "x")])
        self.assertEqual(first + Diary(), first)
        self.assertEqual(Diary() + first, first)
        self.assertEqual((len(first.events), len(second.events)), (2, 3))

    def test_sum_of_too_many(self):
        many = Diary([(0, "break", "x")] * 25)
        self.assertEqual(len((many + Diary([(1, "mend", "x")] * 15)).events), 40)
        self.assertEqual(raised(lambda: many + Diary([(1, "mend", "x")] * 16)), ("TooMany", "events", 41, 40))
        self.assertEqual(raised(lambda: many + many), ("TooMany", "events", 50, 40))

    def test_iteration(self):
        diary = Diary(EVENTS[::-1])
        self.assertEqual(list(diary), diary.events)
        self.assertEqual([(one, two) for one in diary for two in diary],
                         [(one, two) for one in diary.events for two in diary.events])

    def test_nothing_is_kept_and_every_list_is_new(self):
        events = list(EVENTS)
        diary = Diary(events)
        events.append((0, "break", "z"))
        events[0] = None
        self.assertEqual(diary.events, EVENTS)
        for read in (lambda: diary.events, lambda: diary.broken_at(4), lambda: (diary + diary).events):
            before = read()
            read().append("spoilt")
            self.assertEqual(read(), before)
            self.assertIsNot(read(), read())

    def test_errors_in_their_order(self):
        self.assertEqual(raised(Diary, [(-1, "odd", "x"), (100, "odd", "X")] * 30), ("BadName", "X"))
        for text in ("", "A", "a b", "1", "a" * 9, "x\n"):
            self.assertEqual(raised(Diary, [(0, "break", "x"), (0, "break", text)]), ("BadName", text))
        self.assertEqual(raised(Diary, [(0, "odd", "x"), (100, "odd", "x"), (-1, "odd", "x")] * 20),
                         ("OutOfRange", "moment", 100))
        self.assertEqual(raised(Diary, [(-1, "break", "x")]), ("OutOfRange", "moment", -1))
        self.assertEqual(raised(Diary, ((10 ** 59, "break", "x"),)), ("OutOfRange", "moment", 10 ** 59))
        self.assertEqual(raised(Diary, [(0, "odd", "x")] * 41), ("TooMany", "events", 41, 40))
        self.assertEqual(raised(Diary, [(0, "break", "x")] * 400), ("TooMany", "events", 400, 40))
        self.assertIsNone(raised(Diary, [(0, "break", "x")] * 40))
        for deed in ("", "odd", "Break", "break ", "mended"):
            self.assertEqual(raised(Diary, [(0, "break", "x"), (0, deed, "x")]), ("Unlike", "deed"))
        self.assertIsNone(raised(Diary, [(0, "break", "x"), (99, "mend", "x")]))


class BrokenAtTest(unittest.TestCase):
    def test_each_moment(self):
        diary = Diary(EVENTS)
        for moment, damage in [(0, ["x"]), (2, ["x"]), (3, ["y"]), (6, ["y"]), (7, ["y"]), (98, ["y"]),
                               (99, ["x", "y"]), (100, ["x", "y"]), (999, ["x", "y"])]:
            self.assertEqual(diary.broken_at(moment), damage)
        self.assertEqual([diary.broken_at(moment) for moment in range(1000)],
                         [["x"]] * 3 + [["y"]] * 96 + [["x", "y"]] * 901)
        self.assertEqual([Diary().broken_at(moment) for moment in range(1000)], [[]] * 1000)

    def test_events_without_effect(self):
        diary = Diary([(0, "mend", "x"), (1, "break", "x"), (2, "break", "x"), (3, "mend", "x"), (4, "mend", "x")])
        self.assertEqual([diary.broken_at(moment) for moment in range(6)], [[], ["x"], ["x"], [], [], []])

    def test_by_definition(self):
        for seed in range(60):
            events = ordered(random_events(["z", "y", "x", "x2"], seed, 12, 40))
            for moment in list(range(15)) + [999]:
                self.assertEqual(Diary(events).broken_at(moment), plain_broken(events, moment))

    def test_errors(self):
        for moment in (-1, 1000, 10 ** 59):
            self.assertEqual(raised(Diary(EVENTS).broken_at, moment), ("OutOfRange", "moment", moment))
            self.assertEqual(raised(Diary().broken_at, moment), ("OutOfRange", "moment", moment))


class TimedRunTest(unittest.TestCase):
    def test_a_line_is_broken_in_time(self):
        diary = Diary([(1, "break", "ah")])
        self.assertEqual(timed_run(fork(), TABLE, "a", diary).paper, ("a", 0, "home", [("pass", "ah", "h", 0)]))
        self.assertEqual(timed_run(fork(), TABLE, "a", diary, sent=1).moves[0], ("turn", "ah", "a", 1))
        self.assertEqual(timed_run(fork(), TABLE, "c", diary).moves[:2], [("pass", "ca", "a", 0), ("turn", "ah", "a", 1)])

    def test_events_come_before_the_moves_of_their_moment(self):
        diary = Diary([(0, "break", "ah"), (0, "break", "ac"), (1, "mend", "ac"), (1, "break", "cb")])
        self.assertEqual(timed_run(fork(), TABLE, "a", diary).paper,
                         ("a", 0, "stuck", [("turn", "ah", "a", 1), ("pass", "ac", "c", 1), ("stuck", "cb", "c", 1)]))

    def test_stuck_stays_stuck(self):
        table = Table(1, [("a", 0, "ah", None)])
        diary = Diary([(0, "break", "ah"), (1, "mend", "ah")])
        self.assertEqual(timed_run(fork(), table, "a", diary).paper, ("a", 0, "stuck", [("stuck", "ah", "a", 0)]))
        self.assertEqual(timed_run(fork(), table, "a", diary, sent=1).end, "home")

    def test_round_only_behind_the_last_event(self):
        table = Table(1, [("a", 0, "ah", 0)])
        waiting = Diary([(0, "break", "ah"), (5, "mend", "ah")])
        run = timed_run(fork(), table, "a", waiting)
        self.assertEqual(run.paper, ("a", 0, "home", [("turn", "ah", "a", 0)] * 5 + [("pass", "ah", "h", 0)]))
        for last, moves in [(0, 1), (1, 2), (5, 6), (99, 100)]:
            diary = Diary([(0, "break", "ah"), (last, "mend", "bh")])
            run = timed_run(fork(), table, "a", diary)
            self.assertEqual(run.paper, ("a", 0, "round", [("turn", "ah", "a", 0)] * moves))
            run = timed_run(fork(), table, "a", diary, sent=99)
            self.assertEqual(run.paper, ("a", 0, "round", [("turn", "ah", "a", 0)]))

    def test_a_longer_round(self):
        table = Table(1, [("a", 0, "ac", None), ("c", 0, "ca", None)])
        for last, moves in [(0, 2), (1, 3), (2, 4), (3, 5)]:
            run = timed_run(fork(), table, "a", Diary([(last, "mend", "bh")]))
            self.assertEqual((run.end, len(run.moves)), ("round", moves))

    def test_at_home(self):
        diary = Diary([(0, "break", "ah")])
        for sent in (0, 99):
            self.assertEqual(timed_run(fork(), TABLE, "h", diary, sent=sent, mark=99).paper, ("h", 99, "home", []))
        self.assertEqual(timed_run(alone(), Table(0), "h", Diary()).paper, ("h", 0, "home", []))

    def test_by_definition(self):
        ends = set()
        for net, table, events in CASES:
            diary = Diary(events)
            for house in net.houses:
                for mark in list(range(table.marks + 1)) + [99]:
                    for sent in (0, 1, 2, 5, 11, 99):
                        run = timed_run(net, table, house, diary, sent=sent, mark=mark)
                        self.assertEqual(run.paper, plain_timed_run(net, table, house, mark, ordered(events), sent))
                        ends.add((run.end, len(run.moves) > 4))
        self.assertEqual(ends, {(end, more) for end in ("home", "stuck", "round") for more in (False, True)})

    def test_without_changes_it_is_a_plain_run(self):
        for net, table, events in CASES:
            broken = Diary(events).broken_at(999)
            diary = Diary([(0, "break", line) for line in broken])
            for house in net.houses:
                run = run_letter(net, table, house, broken=broken)
                self.assertEqual(timed_run(net, table, house, diary), run)
                self.assertEqual(timed_run(net, table, house, diary, sent=99), run)

    def test_errors_in_their_order(self):
        diary = Diary([(5, "mend", "zz"), (3, "break", "yy"), (0, "break", "ah")])
        for number in (-1, 100, 10 ** 59):
            self.assertEqual(raised(timed_run, fork(), WRONG, "z", diary, sent=number, mark=number),
                             ("OutOfRange", "sent", number))
            self.assertEqual(raised(timed_run, fork(), WRONG, "z", diary, mark=number), ("OutOfRange", "mark", number))
            self.assertEqual(raised(timed_run, fork(), TABLE, "h", Diary(), sent=number),
                             ("OutOfRange", "sent", number))
            self.assertEqual(raised(is_timed_run, fork(), WRONG, diary, number, None), ("OutOfRange", "sent", number))
        self.assertEqual(raised(timed_run, fork(), WRONG, "z", diary, sent=99), ("UnknownHouse", "z"))
        self.assertEqual(raised(timed_run, fork(), WRONG, "a", diary), ("UnknownLine", "yy"))
        self.assertEqual(raised(timed_run, fork(), WRONG, "h", diary, sent=99), ("UnknownLine", "yy"))
        self.assertEqual(raised(timed_run, fork(), WRONG, "h", Diary([(0, "mend", "a")])), ("UnknownLine", "a"))
        self.assertEqual(raised(timed_run, fork(), WRONG, "h", Diary()), ("BadTable", "a", 1))
        self.assertEqual(raised(is_timed_run, fork(), WRONG, diary, 0, None), ("UnknownLine", "yy"))
        self.assertEqual(raised(is_timed_run, fork(), WRONG, Diary(), 99, None), ("BadTable", "a", 1))


class IsTimedRunTest(unittest.TestCase):
    def test_right_papers(self):
        for net, table, events in CASES:
            diary = Diary(events)
            for house in net.houses:
                for sent in (0, 2, 99):
                    for mark in (0, table.marks, 99):
                        paper = plain_timed_run(net, table, house, mark, ordered(events), sent)
                        self.assertIs(is_timed_run(net, table, diary, sent, paper), True)
                        other = plain_run(net, table, house, mark, plain_broken(events, 0))
                        self.assertIs(is_timed_run(net, table, diary, sent, other), other == paper)
                        wrong = paper[:3] + (paper[3][:-1] + [("pass",)],)
                        self.assertIs(is_timed_run(net, table, diary, sent, wrong), False)

    def test_near_papers(self):
        diary = Diary([(1, "break", "ah")])
        moves = [("pass", "ca", "a", 0), ("turn", "ah", "a", 1), ("pass", "ac", "c", 1), ("pass", "cb", "b", 1),
                 ("pass", "bh", "h", 1)]
        self.assertIs(is_timed_run(fork(), TABLE, diary, 0, ("c", 0, "home", moves)), True)
        wrong = [("c", False, "home", moves), ["c", 0, "home", moves], ("c", 0, "home", tuple(moves)),
                 ("c", 0, "stuck", moves), ("c", 1, "home", moves), ("c", 0, "home", moves[:-1]),
                 ("z", 0, "stuck", [("stuck", None, "z", 0)]), ("a", 100, "stuck", [("stuck", None, "a", 100)]),
                 ("a", -1, "stuck", [("stuck", None, "a", -1)]), ("c", 0, "home"), ("c", 0, "home", moves, 0)]
        for place, move in enumerate(moves):
            for other in (move[:3] + (bool(move[3]),), list(move), move[:3]):
                wrong.append(("c", 0, "home", moves[:place] + [other] + moves[place + 1:]))
        for paper in wrong:
            before = copy.deepcopy(paper)
            self.assertIs(is_timed_run(fork(), TABLE, diary, 0, paper), False, paper)
            self.assertEqual(paper, before)
        self.assertIs(is_timed_run(fork(), TABLE, diary, 0, ("a", 99, "stuck", [("stuck", None, "a", 99)])), True)

    def test_every_kind(self):
        for value in KINDS:
            for paper in [value, (value, 0, "home", []), ("a", value, "home", []), ("a", 0, "home", [value]),
                          (value, value, value, value), ("a", 0, "stuck", value)]:
                before = copy.deepcopy(paper)
                self.assertIs(is_timed_run(fork(), TABLE, Diary(), 0, paper), False, repr(paper))
                self.assertEqual(paper, before)


class PromiseTest(unittest.TestCase):
    def test_tables_of_groves(self):
        met = 0
        for seed in range(120):
            net = strong_net(seed, 1 + seed % 6, 1 + seed % 3, seed % 3)
            count = min(plain_strength(net), 3)
            table = table_of(net, build(net, count)[0])
            diary = Diary(random_events(net.line_names, seed, 8, 10))
            for house in net.others:
                for sent in (0, 3):
                    for mark in range(count + 2):
                        run = timed_run(net, table, house, diary, sent=sent, mark=mark)
                        left = max(count - mark, 0)
                        self.assertNotEqual(run.end, "round")
                        self.assertEqual(len(run.met), len(set(run.met)))
                        self.assertLessEqual(len(run.moves), move_bound(net, run.turns))
                        if run.end == "stuck":
                            self.assertEqual(len(run.met), left)
                        broken = ever_broken(diary, sent, sent + len(run.moves) - 1)
                        if len(broken) < left:
                            self.assertEqual(run.end, "home")
                            met += len(broken) > 0
        self.assertGreater(met, 50)


class EverBrokenTest(unittest.TestCase):
    def test_ranges(self):
        diary = Diary(EVENTS)
        for first, last, damage in [(0, 0, ["x"]), (0, 3, ["x", "y"]), (3, 3, ["y"]), (4, 98, ["y"]),
                                    (98, 99, ["x", "y"]), (999, 999, ["x", "y"]), (0, 999, ["x", "y"]), (1, 0, []),
                                    (999, 0, []), (5, 4, [])]:
            self.assertEqual(ever_broken(diary, first, last), damage)

    def test_by_definition(self):
        for seed in range(40):
            events = ordered(random_events(["z", "y", "x"], seed, 9, 20))
            for first in range(0, 12, 3):
                for last in range(0, 12, 2):
                    lines = set()
                    for moment in range(first, last + 1):
                        lines |= set(plain_broken(events, moment))
                    self.assertEqual(ever_broken(Diary(events), first, last), sorted(lines))

    def test_errors(self):
        for number in (-1, 1000, 10 ** 59):
            self.assertEqual(raised(ever_broken, Diary(), number, number), ("OutOfRange", "first", number))
            self.assertEqual(raised(ever_broken, Diary(EVENTS), 999, number), ("OutOfRange", "last", number))


class ArrivalTest(unittest.TestCase):
    def test_arrival(self):
        moves = [("pass", "x", "a", 0)] * 7
        for sent in (0, 50, 99):
            self.assertEqual(arrival(Run("a", 0, "home", moves), sent), sent + 7)
            self.assertEqual(arrival(Run("a", 0, "home", []), sent), sent)
            for end in ("stuck", "round", "anywhere", ""):
                self.assertIsNone(arrival(Run("a", 0, end, moves), sent))

    def test_errors(self):
        for sent in (-1, 100, 10 ** 59):
            for end in ("home", "stuck"):
                self.assertEqual(raised(arrival, Run("a", 0, end, []), sent), ("OutOfRange", "sent", sent))


class CalmTest(unittest.TestCase):
    def test_sample(self):
        self.assertEqual(calm_diary(Diary(EVENTS)).events,
                         [(0, "break", "x"), (3, "mend", "x"), (3, "break", "y"), (99, "break", "x")])
        self.assertEqual(calm_diary(Diary()), Diary())

    def test_broken_and_mended_at_one_moment(self):
        events = [(1, "break", "x"), (1, "mend", "x"), (2, "break", "y"), (3, "mend", "y"), (3, "break", "y"),
                  (4, "mend", "z"), (5, "break", "b"), (5, "break", "a")]
        self.assertEqual(calm_diary(Diary(events)).events,
                         [(2, "break", "y"), (5, "break", "a"), (5, "break", "b")])

    def test_by_definition(self):
        for seed in range(60):
            events = ordered(random_events(["z", "y", "x", "x2"], seed, 10, 40))
            calm = calm_diary(Diary(events))
            told = []
            for moment in range(100):
                before = plain_broken(events, moment - 1)
                after = plain_broken(events, moment)
                told += [(moment, "break" if line in after else "mend", line)
                         for line in sorted(set(before) ^ set(after))]
            self.assertEqual(calm.events, told)
            for moment in list(range(13)) + [99, 999]:
                self.assertEqual(calm.broken_at(moment), plain_broken(events, moment))
            self.assertEqual(calm_diary(calm), calm)

    def test_equal_calm_diaries(self):
        diaries = [Diary(random_events(["x", "y"], seed, 2, 4)) for seed in range(30)]
        for one in diaries:
            for two in diaries:
                same = all(one.broken_at(moment) == two.broken_at(moment) for moment in range(101))
                self.assertIs(calm_diary(one) == calm_diary(two), same)

    def test_runs_with_the_calm_diary(self):
        for net, table, events in CASES:
            diary = Diary(events)
            calm = calm_diary(diary)
            for house in net.houses:
                for sent in (0, 3):
                    run = timed_run(net, table, house, diary, sent=sent)
                    still = timed_run(net, table, house, calm, sent=sent)
                    if run.end == "round":
                        self.assertEqual(still.end, "round")
                        self.assertEqual(run.moves[:len(still.moves)], still.moves)
                    else:
                        self.assertEqual(run, still)


class ShiftedTest(unittest.TestCase):
    def test_sample(self):
        self.assertEqual(shifted(Diary(EVENTS[:6]), 92).events,
                         [(moment + 92, deed, line) for moment, deed, line in EVENTS[:6]])
        self.assertEqual(shifted(Diary(EVENTS), 0), Diary(EVENTS))
        self.assertEqual(shifted(Diary(), 99), Diary())

    def test_runs_are_equal(self):
        for net, table, events in CASES:
            diary = Diary(events)
            for house in net.houses:
                for sent, by in [(0, 1), (2, 7), (5, 50)]:
                    later = timed_run(net, table, house, shifted(diary, by), sent=sent + by)
                    run = timed_run(net, table, house, diary, sent=sent)
                    self.assertEqual(later, run)

    def test_errors(self):
        for by in (-1, 100, 10 ** 59):
            self.assertEqual(raised(shifted, Diary(EVENTS), by), ("OutOfRange", "by", by))
            self.assertEqual(raised(shifted, Diary(), by), ("OutOfRange", "by", by))
        self.assertEqual(raised(shifted, Diary(EVENTS), 1), ("OutOfRange", "moment", 100))
        self.assertEqual(raised(shifted, Diary(EVENTS), 93), ("OutOfRange", "moment", 100))
        self.assertEqual(raised(shifted, Diary(EVENTS), 98), ("OutOfRange", "moment", 101))
        self.assertEqual(raised(shifted, Diary(EVENTS), 99), ("OutOfRange", "moment", 102))


class FreshTest(unittest.TestCase):
    def test_arguments_and_results(self):
        for net, table, events in CASES[::4]:
            diary = Diary(events)
            same = Diary(tuple(diary.events))
            again = Table(table.marks, tuple(reversed(table.entries)))
            self.assertEqual(unharmed(self, calm_diary, diary), calm_diary(same))
            self.assertEqual(unharmed(self, shifted, diary, 3), shifted(same, 3))
            self.assertEqual(unharmed(self, ever_broken, diary, 0, 5), ever_broken(same, 0, 5))
            for house in net.houses:
                run = unharmed(self, timed_run, net, table, house, diary, sent=1)
                self.assertEqual(timed_run(remade(net), again, house, same, sent=1), run)
                unharmed(self, is_timed_run, net, table, diary, 1, run.paper)
                unharmed(self, arrival, run, 4)
                if diary == Diary():
                    self.assertIs(is_run(net, table, [], run.paper), True)


if __name__ == "__main__":
    unittest.main()
