import copy
import random
import unittest

from markshome.buildlog import (is_log, leading_lines, leading_lot, log_state, takeable, tight_lots, why_not)
from markshome.nets import Net
from samples import (KINDS, alone, chain, fork, mixed, plain_free, plain_lots, plain_out, plain_strength, plain_tight,
                     plain_why, raised, random_log, random_net, remade, strong_net, unharmed)

WHOLE = [(0, "ah"), (0, "ca"), (0, "bc"), (1, "bh"), (1, "cb"), (1, "ac")]
ALL_CALLS = [log_state, takeable, tight_lots, leading_lot, leading_lines,
             lambda net, count, log: why_not(net, count, log, net.line_names[0])]
LOT_CALLS = [tight_lots, leading_lot, leading_lines]


def made_cases():
    """Nets with a count and a whole right log."""
    found = []
    for seed in range(32):
        net = strong_net(seed, 1 + seed % 4, 1 + seed % 5 % 4, seed % 3)
        for count in range(min(4, plain_strength(net)) + 1):
            found.append((net, count, random_log(net, count, seed)))
    return found


CASES = made_cases()
BEGINNINGS = [(net, count, log[:length]) for net, count, log in CASES for length in range(len(log) + 1)]


class StateTest(unittest.TestCase):
    def test_every_length(self):
        self.assertEqual([log_state(fork(), 2, WHOLE[:length]) for length in range(7)], [
            (0, 1, ["h"], []),
            (0, 1, ["a", "h"], ["ah"]),
            (0, 1, ["a", "c", "h"], ["ah", "ca"]),
            (1, 0, ["h"], ["ah", "bc", "ca"]),
            (1, 0, ["b", "h"], ["ah", "bc", "bh", "ca"]),
            (1, 0, ["b", "c", "h"], ["ah", "bc", "bh", "ca", "cb"]),
            (2, 0, ["a", "b", "c", "h"], ["ac", "ah", "bc", "bh", "ca", "cb"])])

    def test_by_definition(self):
        for net, count, log in BEGINNINGS:
            size = len(net.others)
            index, rest, inside, taken = log_state(net, count, log)
            self.assertEqual(taken, sorted(name for _, name in log))
            if len(log) == count * size:
                self.assertEqual((index, rest, inside), (count, 0, net.houses))
            else:
                self.assertEqual((index, rest), (len(log) // size, count - 1 - len(log) // size))
                tails = [net.tail(name) for at, name in log if at == index]
                self.assertEqual(inside, sorted([net.home] + tails))

    def test_count_0_and_home_alone(self):
        self.assertEqual(log_state(fork(), 0, []), (0, 0, ["a", "b", "c", "h"], []))
        self.assertEqual(log_state(mixed(), 0, []), (0, 0, ["a", "b", "d", "h"], []))
        for count in range(5):
            self.assertEqual(log_state(alone(), count, []), (count, 0, ["h"], []))

    def test_large(self):
        net = chain(12)
        log = [(0, line) for line in net.line_names]
        self.assertEqual(log_state(net, 1, log[:5])[2], ["h", "n01", "n02", "n03", "n04", "n05"])
        self.assertEqual(log_state(net, 1, log), (1, 0, net.houses, net.line_names))


class WhyNotTest(unittest.TestCase):
    def test_fork(self):
        self.assertEqual(why_not(fork(), 2, [(0, "ah")], "bh"), ("lot", ["a", "b", "c"]))
        told = {line: why_not(fork(), 2, WHOLE[:1], line) for line in fork().line_names}
        self.assertEqual(told, {"ah": ("taken", None), "ac": ("tail", None), "bc": ("head", None),
                                "bh": ("lot", ["a", "b", "c"]), "ca": ("free", None), "cb": ("head", None)})
        for line in fork().line_names:
            self.assertEqual(why_not(fork(), 2, WHOLE, line), ("whole", None))

    def test_the_first_reason_counts(self):
        # A taken line has its tail inside, too; a line from inside to outside has both faults.
        self.assertEqual(why_not(fork(), 2, WHOLE[:2], "ca"), ("taken", None))
        self.assertEqual(why_not(fork(), 1, [(0, "ah")], "ac"), ("tail", None))
        self.assertEqual(why_not(mixed() - ["bd"], 0, [], "hh"), ("whole", None))

    def test_home_and_loops(self):
        net = Net("h", ["a", "b"], [row for row in mixed().lines if "d" not in row])
        self.assertEqual([why_not(net, 1, [], line) for line in ("hh", "ha", "aa", "ab", "a1")],
                         [("tail", None), ("tail", None), ("head", None), ("head", None), ("free", None)])

    def test_a_line_taken_by_an_earlier_tree(self):
        self.assertEqual(why_not(fork(), 2, WHOLE[:3], "ah"), ("taken", None))

    def test_against_all_lots(self):
        reasons = []
        for net, count, log in BEGINNINGS:
            tight = None
            for line in net.line_names:
                reason, lot = why_not(net, count, log, line)
                self.assertEqual((reason, lot), plain_why(net, count, log, line))
                reasons.append(reason)
                if reason == "lot":
                    tight = plain_tight(net, count, log) if tight is None else tight
                    leaving = [other for other in tight
                               if net.tail(line) in other and net.head(line) not in other]
                    self.assertIn(lot, leaving)
                    self.assertTrue(all(set(lot) <= set(other) for other in leaving))
        self.assertEqual(set(reasons), {"whole", "taken", "tail", "head", "lot", "free"})
        self.assertGreater(reasons.count("lot"), 50)

    def test_large_nets(self):
        met = 0
        for seed, (others, count, extra) in enumerate([(9, 3, 1), (9, 2, 0), (10, 3, 0), (11, 2, 0)]):
            net = strong_net(seed, others, count, extra)
            chance = random.Random(seed)
            log = []
            while len(log) < count * len(net.others):
                free = takeable(net, count, log)
                if len(log) in (1, 4, 6):
                    for line in net.line_names:
                        told = why_not(net, count, log, line)
                        self.assertEqual(told, plain_why(net, count, log, line))
                        met += told[0] == "lot"
                log.append((len(log) // len(net.others), chance.choice(free)))
            self.assertIs(is_log(net, count, log), True)
        self.assertGreater(met, 3)

    def test_errors(self):
        self.assertEqual(raised(why_not, fork(), 2, WHOLE, "zz"), ("UnknownLine", "zz"))
        self.assertEqual(raised(why_not, fork(), 2, WHOLE, "a"), ("UnknownLine", "a"))
        self.assertEqual(raised(why_not, fork(), 2, [], ""), ("UnknownLine", ""))
        self.assertEqual(raised(why_not, alone(), 2, [], "x"), ("UnknownLine", "x"))
        self.assertEqual(raised(why_not, fork(), 5, [(7, "zz")], "zz"), ("OutOfRange", "count", 5))
        self.assertEqual(raised(why_not, fork(), 3, [(7, "zz")], "zz"), ("UnknownLine", "zz"))
        self.assertEqual(raised(why_not, fork(), 3, [(7, "zz")], "ah"), ("Weak", 2, 3))
        self.assertEqual(raised(why_not, fork(), 2, [(7, "zz")], "ah"), ("BadLog", 0))


class TakeableTest(unittest.TestCase):
    def test_fork(self):
        self.assertEqual([takeable(fork(), 2, WHOLE[:length]) for length in range(7)],
                         [["ah", "bh"], ["ca"], ["bc"], ["bh"], ["cb"], ["ac"], []])
        self.assertEqual(takeable(fork(), 1, []), ["ah", "bh"])
        self.assertEqual(takeable(fork(), 0, []), [])

    def test_against_all_lots(self):
        for net, count, log in BEGINNINGS:
            told = takeable(net, count, log)
            self.assertEqual(told, plain_free(net, count, log))
            # The central fact: a right log can always go on.
            self.assertIs(told == [], len(log) == count * len(net.others))

    def test_home_alone(self):
        for count in range(5):
            self.assertEqual(takeable(alone(), count, []), [])


class IsLogTest(unittest.TestCase):
    def test_beginnings(self):
        for length in range(7):
            self.assertIs(is_log(fork(), 2, WHOLE[:length]), length == 6)
            self.assertIs(is_log(fork(), 2, WHOLE[:length], whole=True), length == 6)
            self.assertIs(is_log(fork(), 2, WHOLE[:length], whole=False), True)

    def test_against_all_lots(self):
        for net, count, log in CASES[::4]:
            for length in range(len(log)):
                free = plain_free(net, count, log[:length])
                for line in net.line_names:
                    for index in (length // len(net.others), 0, 1):
                        right = index == length // len(net.others) and line in free
                        tried = log[:length] + [(index, line)]
                        self.assertIs(is_log(net, count, tried, whole=False), right)
                        self.assertIs(is_log(net, count, tried), right and length + 1 == len(log))

    def test_the_empty_log(self):
        self.assertIs(is_log(fork(), 0, []), True)
        self.assertIs(is_log(fork(), 1, []), False)
        for seed in range(40):
            net = random_net(seed)
            least = plain_strength(net)
            for count in range(5):
                right = least is None or least >= count
                self.assertIs(is_log(net, count, [], whole=False), right)
                self.assertIs(is_log(net, count, []), right and (count == 0 or net.others == []))

    def test_weak_net(self):
        self.assertIs(is_log(fork(), 3, [], whole=False), False)
        self.assertIs(is_log(fork(), 3, WHOLE + [(2, "ah"), (2, "ca"), (2, "bc")]), False)
        self.assertIs(is_log(mixed(), 1, [], whole=False), False)
        self.assertIs(is_log(mixed(), 1, [(0, "a1")], whole=False), False)

    def test_home_alone(self):
        for count in range(5):
            self.assertIs(is_log(alone(), count, []), True)
            self.assertIs(is_log(alone(), count, [(0, "l1")], whole=False), False)

    def test_wrong_logs(self):
        wrong = [[(1, "ah")], [(-1, "ah")], [(0, "zz")], [(0, "a")], [(0, "")], [(0, "bc")], [(0, "ah"), (0, "ah")],
                 [(0, "ah"), (0, "bh")], WHOLE + [(2, "ah")], WHOLE + [(1, "ac")], WHOLE[:3] + [(0, "bh")],
                 WHOLE[1:], WHOLE[:3] + [(2, "bh")], [(10 ** 59, "ah")]]
        for log in wrong:
            self.assertIs(is_log(fork(), 2, log), False, log)
            self.assertIs(is_log(fork(), 2, log, whole=False), False, log)
        self.assertIs(is_log(fork(), 0, [(0, "ah")], whole=False), False)

    def test_other_kinds(self):
        wrong = [[[0, "ah"]], ((0, "ah"),), [(0, "ah", 0)], [(0,)], [()], [(False, "ah")], [("ah", 0)], [("0", "ah")],
                 [(0, ["ah"])], [(0, None)], [(None, "ah")], [({}, "ah")], [(0, {"ah": 0})], [(0, ("ah",))], [(0, 0)],
                 {0: "ah"}, {(0, "ah"): 0}, [[(0, "ah")]], [(0, "ah"), None], (), [(0, True)]]
        for value in KINDS + wrong:
            before = copy.deepcopy(value)
            for whole in (False, True):
                self.assertIs(is_log(fork(), 2, value, whole=whole), False, repr(value))
                self.assertIs(is_log(alone(), 2, value, whole=whole), False, repr(value))
                self.assertIs(is_log(fork(), 3, value, whole=whole), False, repr(value))
            self.assertEqual(value, before)
        places = [WHOLE[:k] + [(bool(WHOLE[k][0]), WHOLE[k][1])] + WHOLE[k + 1:] for k in range(6)]
        places += [WHOLE[:k] + [list(WHOLE[k])] + WHOLE[k + 1:] for k in range(6)]
        for log in places + [tuple(WHOLE)]:
            self.assertIs(is_log(fork(), 2, log), False, log)

    def test_the_count_is_checked(self):
        for count in (-1, 5, 10 ** 59):
            for net in (fork(), alone()):
                self.assertEqual(raised(is_log, net, count, None), ("OutOfRange", "count", count))

    def test_large_nets(self):
        for seed in range(3):
            net = strong_net(seed, 11 - seed, 2 + seed % 2)
            count = 2 + seed % 2
            log = []
            while len(log) < count * len(net.others):
                log.append((len(log) // len(net.others), takeable(net, count, log)[-1]))
            self.assertIs(is_log(net, count, log), True)
            self.assertIs(is_log(net, count, log[:-1]), False)


class LotsTest(unittest.TestCase):
    def test_fork(self):
        self.assertEqual(tight_lots(fork(), 2, [(0, "ah")]), [["a"], ["a", "c"], ["a", "b", "c"]])
        self.assertEqual(leading_lot(fork(), 2, [(0, "ah")]), ["a", "c"])
        self.assertEqual(leading_lines(fork(), 2, [(0, "ah")]), ["ca"])
        self.assertEqual(tight_lots(fork(), 2, []), [])
        self.assertIsNone(leading_lot(fork(), 2, []))
        self.assertEqual(leading_lines(fork(), 2, []), ["ah", "bh"])

    def test_whole_logs(self):
        for net, count, log in CASES:
            self.assertEqual(tight_lots(net, count, log), [])
            self.assertIsNone(leading_lot(net, count, log))
            self.assertEqual(leading_lines(net, count, log), [])
        for count in range(5):
            self.assertEqual(tight_lots(alone(), count, []), [])
            self.assertIsNone(leading_lot(alone(), count, []))
            self.assertEqual(leading_lines(alone(), count, []), [])

    def test_against_all_lots(self):
        met = 0
        for net, count, log in BEGINNINGS:
            if len(log) == count * len(net.others):
                continue
            index, rest, inside, taken = log_state(net, count, log)
            tight = [lot for lot in plain_lots(net) if len(plain_out(net, lot, taken)) == rest]
            self.assertEqual(tight_lots(net, count, log), tight)
            self.assertTrue(all(set(lot) & set(inside) for lot in tight))
            leading = [lot for lot in tight if set(lot) - set(inside)]
            self.assertEqual(leading_lot(net, count, log), leading[0] if leading else None)
            met += leading != []
            where = leading[0] if leading else net.houses
            lines = [name for name, tail, head in net.lines
                     if name not in taken and tail in where and tail not in inside and head in where and head in inside]
            told = leading_lines(net, count, log)
            self.assertEqual(told, lines)
            self.assertTrue(told)
            self.assertLessEqual(set(told), set(plain_free(net, count, log)))
        self.assertGreater(met, 20)

    def test_nine_houses(self):
        net = strong_net(5, 8, 3)
        log = []
        for _ in range(24):
            index, rest, inside, taken = log_state(net, 3, log)
            tight = plain_tight(net, 3, log)
            self.assertEqual(tight_lots(net, 3, log), tight)
            leading = [lot for lot in tight if set(lot) - set(inside)]
            self.assertEqual(leading_lot(net, 3, log), leading[0] if leading else None)
            line = leading_lines(net, 3, log)[-1]
            self.assertEqual(why_not(net, 3, log, line), ("free", None))
            log.append((len(log) // 8, line))
        self.assertIs(is_log(net, 3, log), True)
        self.assertEqual(leading_lines(net, 3, log), [])

    def test_ten_houses(self):
        net = strong_net(5, 9, 2)
        log = [(0, takeable(net, 2, [])[0])]
        for call in LOT_CALLS:
            self.assertEqual(raised(call, net, 2, log), ("TooMany", "houses", 10, 9))
            self.assertEqual(raised(call, net, 0, []), ("TooMany", "houses", 10, 9))
            self.assertEqual(raised(call, net, 5, log), ("OutOfRange", "count", 5))
            self.assertEqual(raised(call, chain(10), 2, [(5, "zz")]), ("TooMany", "houses", 10, 9))
            self.assertEqual(raised(call, chain(12), 1, [(5, "zz")]), ("TooMany", "houses", 12, 9))
            self.assertEqual(raised(call, chain(9), 2, [(5, "zz")]), ("Weak", 1, 2))
        whole = [(0, line) for line in chain(10).line_names]
        for call in LOT_CALLS:
            self.assertEqual(raised(call, chain(10), 1, whole), ("TooMany", "houses", 10, 9))


class ErrorsTest(unittest.TestCase):
    def test_count(self):
        for call in ALL_CALLS:
            for net in (fork(), alone(), mixed()):
                for count in (-1, 5, -10 ** 59):
                    self.assertEqual(raised(call, net, count, [(0, "zz")]), ("OutOfRange", "count", count))

    def test_weak(self):
        for call in ALL_CALLS:
            self.assertEqual(raised(call, fork(), 3, [(0, "zz")]), ("Weak", 2, 3))
            self.assertEqual(raised(call, fork(), 4, []), ("Weak", 2, 4))
            self.assertEqual(raised(call, mixed(), 1, []), ("Weak", 0, 1))
            self.assertIsNone(raised(call, mixed(), 0, []))

    def test_bad_log(self):
        wrong = [([(0, "zz")], 0), ([(1, "ah")], 0), ([(-1, "ah")], 0), ([(0, "bc")], 0), ([(0, "h")], 0),
                 ([(0, "ah"), (0, "ah")], 1), ([(0, "ah"), (1, "ca")], 1), ([(0, "ah"), (0, "bh")], 1),
                 ([(0, "ah"), (-1, "bh"), (0, "zz")], 1), (WHOLE[:3] + [(0, "bh")], 3), (WHOLE[:3] + [(1, "ca")], 3),
                 (WHOLE[:5] + [(1, "")], 5), (WHOLE + [(2, "ah")], 6), (WHOLE + [(1, "zz")], 6),
                 ([(10 ** 59, "ah")], 0)]
        for call in ALL_CALLS:
            for log, place in wrong:
                self.assertEqual(raised(call, fork(), 2, log), ("BadLog", place), log)
            self.assertEqual(raised(call, fork(), 0, [(0, "ah")]), ("BadLog", 0))
            self.assertEqual(raised(call, alone(), 2, [(0, "l1")]), ("BadLog", 0))
            self.assertEqual(raised(call, alone(), 0, [(0, "zz")]), ("BadLog", 0))


class FreshTest(unittest.TestCase):
    def test_arguments_and_results(self):
        for net, count, log in BEGINNINGS[::9]:
            for call in ALL_CALLS:
                told = unharmed(self, call, net, count, log)
                self.assertEqual(call(remade(net), count, list(log)), told)
            for line in net.line_names[:3]:
                unharmed(self, why_not, net, count, log, line)
            unharmed(self, is_log, net, count, log, whole=False)


if __name__ == "__main__":
    unittest.main()
