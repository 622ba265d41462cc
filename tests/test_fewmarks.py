import copy
import itertools
import math
import unittest

from markshome.builder import build
from markshome.fewmarks import (find_rows, fork_net, full_rows, is_order, is_ring, is_rows, least_marks, order_or_ring,
                                row_run, rows_stop)
from markshome.flows import strength
from markshome.marks import table_of
from markshome.nets import Net
from markshome.stops import first_stop
from markshome.tables import Table
from samples import (KINDS, alone, chain, fork, large_net, mixed, plain_damages, plain_run, plain_strength, raised,
                     random_net, remade, strong_net, unharmed)


def layered():
    """A net with an order, with lines out of home, loops at home and lines with equal ends."""
    return Net("h", ["a", "b", "c"], [("a1", "a", "h"), ("a2", "a", "h"), ("ba", "b", "a"), ("bh", "b", "h"),
                                      ("ca", "c", "a"), ("cb", "c", "b"), ("cb2", "c", "b"), ("ha", "h", "a"),
                                      ("hc", "h", "c"), ("hh", "h", "h")])


def ordered_net(seed):
    """A net with an order, of 2 to 5 houses."""
    net = random_net(seed, 4, 12)
    while not net.others or not plain_orders(net):
        seed += 1000
        net = random_net(seed, 4, 12)
    return net


def plain_orders(net):
    """All orders of a net, by trying every arrangement of its houses."""
    found = []
    for order in itertools.permutations(net.others):
        place = {house: index for index, house in enumerate(order)}
        place[net.home] = -1
        if all(tail == net.home or place[head] < place[tail] for _, tail, head in net.lines):
            found.append(list(order))
    return found


def plain_ring(net, ring):
    """True if a list of line names is a ring, as the definition says."""
    ends = {name: (tail, head) for name, tail, head in net.lines}
    if not ring or any(line not in ends for line in ring):
        return False
    for one, two in zip(ring, ring[1:] + ring[:1]):
        if ends[one][1] != ends[two][0]:
            return False
    tails = [ends[line][0] for line in ring]
    return net.home not in tails and len(tails) == len(set(tails))


def plain_row_run(net, rows, start, broken=()):
    """The run by rows, house by house as the definition says."""
    ends = {name: head for name, _, head in net.lines}
    lines = []
    house = start
    met = {start}
    while house != net.home:
        line = next((line for line in rows[house] if line not in broken), None)
        if line is None:
            return ("stuck", lines)
        lines.append(line)
        house = ends[line]
        if house != net.home and house in met:
            return ("round", lines)
        met.add(house)
    return ("home", lines)


def plain_rows_stop(net, rows, damages):
    """The first of the damages that stops the rows, with the first house."""
    for damage in damages:
        for house in net.others:
            if plain_row_run(net, rows, house, damage)[0] != "home":
                return (damage, house)
    return None


def plain_arrangements(net):
    """All rows with all lines, in the order in which they are gone through."""
    lists = [sorted(list(chosen) for chosen in itertools.permutations(net.out(house))) for house in net.others]
    return [dict(zip(net.others, chosen)) for chosen in itertools.product(*lists)]


def some_rows(net, seed):
    """Rows of a net in which some lines are left out and the others stand in some order."""
    rows = {}
    for index, house in enumerate(net.others):
        lines = net.out(house)
        turn = (seed + index) % (len(lines) + 1)
        rows[house] = (lines[turn:] + lines[:turn])[:len(lines) - (seed + index) % 3 // 2]
    return rows


class LeastMarksTest(unittest.TestCase):
    def test_fork(self):
        self.assertEqual([least_marks(fork(), breaks) for breaks in (0, 1, 2, 3)], [1, 2, None, None])

    def test_home_alone(self):
        for breaks in (0, 1, 2, 3):
            self.assertEqual(least_marks(alone(), breaks), 0)
            self.assertEqual(least_marks(Net("h"), breaks), 0)

    def test_against_the_strength(self):
        seen = set()
        for seed in range(80):
            net = random_net(seed) if seed % 2 else strong_net(seed, 1 + seed % 3, 1 + seed % 4, 2)
            least = plain_strength(net)
            for breaks in (0, 1, 2, 3):
                told = 0 if least is None else (breaks + 1 if least >= breaks + 1 else None)
                self.assertEqual(least_marks(net, breaks), told)
                seen.add((least is None, told))
        self.assertEqual(len(seen), 6)

    def test_so_many_marks_hold_and_fewer_do_not(self):
        for seed in range(20):
            net = strong_net(seed, 1 + seed % 2, 2, seed % 2)
            for breaks in range(4):
                marks = least_marks(net, breaks)
                damages = plain_damages(net, breaks)
                if marks is not None:
                    table = table_of(net, build(net, marks)[0])
                    self.assertTrue(all(plain_run(net, table, house, 0, damage)[2] == "home"
                                        for damage in damages for house in net.others))

    def test_no_table_with_fewer_marks_holds(self):
        net = Net("h", ["a", "b"], [("a1", "a", "h"), ("a2", "a", "b"), ("b1", "b", "h"), ("b2", "b", "a")])
        self.assertEqual(least_marks(net, 1), 2)
        for first, second in itertools.product(["a1", "a2"], ["b1", "b2"]):
            for more in ([], [None], [0]):
                entries = [("a", 0, first, after) for after in more] + [("b", 0, second, after) for after in more]
                self.assertIsNotNone(first_stop(net, Table(1, entries), 1))
        self.assertIsNone(first_stop(net, table_of(net, build(net, 2)[0]), 1))

    def test_breaks_outside(self):
        for breaks in (-1, 4, 10 ** 59, -10 ** 59):
            for net in (fork(), alone(), large_net(1)):
                self.assertEqual(raised(least_marks, net, breaks), ("OutOfRange", "breaks", breaks))


class OrderTest(unittest.TestCase):
    def test_layered(self):
        self.assertEqual([order for order in itertools.permutations("abc") if is_order(layered(), list(order))],
                         [("a", "b", "c")])
        self.assertEqual(order_or_ring(layered()), ("order", ["a", "b", "c"]))

    def test_against_all_arrangements(self):
        kinds = set()
        for seed in range(150):
            net = random_net(seed, 4, 7)
            orders = plain_orders(net)
            for order in itertools.permutations(net.others):
                self.assertIs(is_order(net, list(order)), list(order) in orders)
            kind, told = order_or_ring(net)
            kinds.add((kind, len(told)))
            if kind == "order":
                self.assertIn(told, orders)
            else:
                self.assertEqual(orders, [])
                self.assertTrue(plain_ring(net, told))
                self.assertIs(is_ring(net, told), True)
        self.assertLessEqual({("order", 0), ("order", 4), ("ring", 1), ("ring", 2), ("ring", 3)}, kinds)

    def test_large_nets(self):
        for seed in range(10):
            kind, ring = order_or_ring(large_net(seed))
            self.assertEqual(kind, "ring")
            self.assertTrue(plain_ring(large_net(seed), ring))
        kind, order = order_or_ring(chain(12))
        self.assertEqual((kind, order), ("order", [f"n{k:02}" for k in range(1, 12)]))
        self.assertIs(is_order(chain(12), order), True)
        self.assertIs(is_order(chain(12), order[::-1]), False)

    def test_home_alone(self):
        for net in (alone(), Net("h")):
            self.assertEqual(order_or_ring(net), ("order", []))
            self.assertIs(is_order(net, []), True)
            self.assertIs(is_order(net, ["h"]), False)

    def test_loops_and_lines_out_of_home(self):
        loop = Net("h", ["a"], [("aa", "a", "a"), ("ah", "a", "h")])
        self.assertEqual(order_or_ring(loop), ("ring", ["aa"]))
        self.assertIs(is_order(loop, ["a"]), False)
        home = Net("h", ["a"], [("ha", "h", "a"), ("hh", "h", "h"), ("ah", "a", "h")])
        self.assertEqual(order_or_ring(home), ("order", ["a"]))
        self.assertIs(is_order(home, ["a"]), True)
        self.assertIs(is_ring(home, ["ha", "ah"]), False)
        self.assertIs(is_ring(home, ["hh"]), False)
        bare = Net("h", ["b", "a"])
        self.assertIs(is_order(bare, ["a", "b"]) and is_order(bare, ["b", "a"]), True)
        self.assertIs(is_order(bare, order_or_ring(bare)[1]), True)

    def test_values_near_an_order(self):
        for wrong in [["a", "b"], ["a", "b", "c", "c"], ["a", "b", "b"], ["h", "a", "b", "c"], ["a", "b", "c", "h"],
                      ["a", "b", "z"], ("a", "b", "c"), [["a", "b", "c"]], "abc", {"a": 1, "b": 2, "c": 3},
                      ["a", "b", ["c"]], ["a", "b", None], ["b", "a", "c"], []]:
            before = copy.deepcopy(wrong)
            self.assertIs(is_order(layered(), wrong), False, wrong)
            self.assertEqual(wrong, before)

    def test_every_kind(self):
        for value in KINDS:
            for order in [value, [value], ["a", "b", value], [value, value, value]]:
                self.assertIs(is_order(layered(), order), False, repr(order))
                self.assertIs(is_ring(mixed(), order), False, repr(order))
                self.assertIs(is_ring(mixed(), ["ab", value]), False, repr(value))
                self.assertIs(is_order(alone(), order), order == [], repr(order))
        self.assertIs(is_order(layered(), [True, False, None]), False)


class RingTest(unittest.TestCase):
    def test_mixed(self):
        for ring in (["aa"], ["ab", "ba"], ["ba", "ab"]):
            self.assertIs(is_ring(mixed(), ring), True)
        for wrong in [[], ["hh"], ["ab"], ["ba", "ba"], ["ab", "ba", "ab", "ba"], ["aa", "aa"], ["aa", "ab", "ba"],
                      ["a1", "ha"], ["ha", "a1"], ["bh", "hb"], ["ab", "bh", "ha"], ["ab", "bd"], ["ab", "zz"],
                      ("ab", "ba"), ["ba", "ab", "ba"], "aa", [["aa"]], ["a"], {"aa": 1}]:
            before = copy.deepcopy(wrong)
            self.assertIs(is_ring(mixed(), wrong), False, wrong)
            self.assertEqual(wrong, before)

    def test_against_all_lists(self):
        rings = 0
        for seed in range(60):
            net = random_net(seed, 3, 6)
            for size in range(4):
                for lines in itertools.product(net.line_names, repeat=size):
                    told = plain_ring(net, list(lines))
                    self.assertIs(is_ring(net, list(lines)), told)
                    rings += told
        self.assertGreater(rings, 40)

    def test_lines_with_equal_ends(self):
        net = Net("h", ["a", "b"], [("p", "a", "b"), ("q", "a", "b"), ("r", "b", "a")])
        self.assertIs(is_ring(net, ["p", "r"]), True)
        self.assertIs(is_ring(net, ["q", "r"]), True)
        self.assertIs(is_ring(net, ["p", "r", "q", "r"]), False)


class OrderStrengthTest(unittest.TestCase):
    def test_the_least_number_of_lines_out_of_one_house(self):
        seen = set()
        for seed in range(120):
            net = ordered_net(seed)
            self.assertEqual(order_or_ring(net)[0], "order")
            least = min(len(net.out(house)) for house in net.others)
            self.assertEqual(strength(net), least)
            self.assertEqual(plain_strength(net), least)
            seen.add(least)
        self.assertLessEqual({0, 1, 2}, seen)
        # With a ring this need not be so.
        ring = Net("h", ["a", "b"], [("p", "a", "b"), ("q", "b", "a")])
        self.assertEqual((strength(ring), order_or_ring(ring)[0]), (0, "ring"))


class IsRowsTest(unittest.TestCase):
    def test_right_rows(self):
        for rows in [{"a": ["ah", "ac"], "b": ["bc"], "c": []}, {"c": [], "b": [], "a": []},
                     {"a": ["ac", "ah"], "b": ["bc", "bh"], "c": ["cb", "ca"]}]:
            self.assertIs(is_rows(fork(), rows), True)
        self.assertIs(is_rows(mixed(), {"a": ["aa", "a2", "a1", "ab"], "b": ["bd"], "d": []}), True)
        self.assertIs(is_rows(alone(), {}), True)

    def test_wrong_rows(self):
        right = {"a": ["ah", "ac"], "b": ["bc"], "c": []}
        for wrong in [{"a": [], "b": []}, {**right, "d": []}, {**right, "h": []}, {"a": [], "b": [], "h": []},
                      {**right, "a": ["ah", "ah"]}, {**right, "a": ["bh"]}, {**right, "a": ["zz"]},
                      {**right, "a": ["ah", "a"]}, {**right, "a": ("ah",)}, {**right, "a": "ah"},
                      {**right, "a": {"ah": 1}}, {**right, "a": None}, {**right, "a": [["ah"]]}, {**right, "a": [None]},
                      [right], [("a", []), ("b", []), ("c", [])], {"a": [], "b": [], None: []},
                      {"a": [], "b": [], True: []}, {"a": [], "b": [], ("c",): []}, {**right, "a": ["ah", 1]},
                      {**right, 1: []}, {}]:
            before = copy.deepcopy(wrong)
            self.assertIs(is_rows(fork(), wrong), False, wrong)
            self.assertEqual(wrong, before)
            if isinstance(wrong, dict) and all(isinstance(key, str) for key in wrong):
                if all(isinstance(lines, list) and all(isinstance(line, str) for line in lines)
                       for lines in wrong.values()):
                    self.assertEqual(raised(row_run, fork(), wrong, "a"), ("Unlike", "rows"))
                    self.assertEqual(raised(rows_stop, fork(), wrong, 0), ("Unlike", "rows"))
        self.assertIs(is_rows(mixed(), {"a": [], "b": [], "d": [], "h": ["hh"]}), False)
        self.assertIs(is_rows(alone(), {"h": []}), False)
        self.assertIs(is_rows(alone(), {"h": ["l1"]}), False)
        self.assertIs(is_rows(alone(), []), False)

    def test_every_kind(self):
        for value in KINDS:
            for rows in [value, {"a": value, "b": [], "c": []}, {"a": [value], "b": [], "c": []}, [value],
                         {"a": ["ah", value], "b": [], "c": []}]:
                if rows != {"a": [], "b": [], "c": []}:
                    self.assertIs(is_rows(fork(), rows), False, repr(rows))
            self.assertIs(is_rows(alone(), value), value == {}, repr(value))

    def test_full_rows(self):
        self.assertEqual(full_rows(fork()), {"a": ["ac", "ah"], "b": ["bc", "bh"], "c": ["ca", "cb"]})
        self.assertEqual(full_rows(mixed()), {"a": ["a1", "a2", "aa", "ab"], "b": ["ba", "bd", "bh"], "d": []})
        self.assertEqual(full_rows(alone()), {})
        for seed in range(20):
            net = random_net(seed)
            self.assertIs(is_rows(net, full_rows(net)), True)


class RowRunTest(unittest.TestCase):
    def test_each_end(self):
        rows = {"a": ["ac", "ah"], "b": ["bh"], "c": ["cb", "ca"]}
        self.assertEqual(row_run(fork(), rows, "a"), ("home", ["ac", "cb", "bh"]))
        self.assertEqual(row_run(fork(), rows, "a", broken=["ac"]), ("home", ["ah"]))
        self.assertEqual(row_run(fork(), rows, "a", broken=("cb",)), ("round", ["ac", "ca"]))
        self.assertEqual(row_run(fork(), rows, "c", broken=["bh", "bh"]), ("stuck", ["cb"]))
        self.assertEqual(row_run(fork(), rows, "b", broken=["bh"]), ("stuck", []))
        self.assertEqual(row_run(fork(), rows, "h", broken=["bh"]), ("home", []))
        self.assertEqual(row_run(fork(), {"a": [], "b": [], "c": []}, "a"), ("stuck", []))
        self.assertEqual(row_run(mixed(), {"a": ["aa", "a1"], "b": [], "d": []}, "a"), ("round", ["aa"]))
        self.assertEqual(row_run(mixed(), {"a": ["aa", "a1"], "b": [], "d": []}, "a", broken=["aa"]), ("home", ["a1"]))
        self.assertEqual(row_run(alone(), {}, "h", broken=["l1"]), ("home", []))

    def test_round_beside_the_start(self):
        # The letter comes back to a house that is not its start.
        net = Net("h", ["a", "b", "c"], [("ab", "a", "b"), ("bc", "b", "c"), ("cb", "c", "b")])
        self.assertEqual(row_run(net, full_rows(net), "a"), ("round", ["ab", "bc", "cb"]))

    def test_against_the_definition(self):
        ends = set()
        for seed in range(80):
            net = random_net(seed, 4, 9)
            rows = some_rows(net, seed)
            for damage in plain_damages(net, 2):
                for start in net.houses:
                    told = plain_row_run(net, rows, start, damage)
                    self.assertEqual(row_run(net, rows, start, broken=damage[::-1]), told)
                    ends.add((told[0], min(len(told[1]), 3)))
        self.assertLessEqual({("home", 0), ("home", 3), ("stuck", 0), ("stuck", 2), ("round", 1), ("round", 3)}, ends)

    def test_errors(self):
        wrong = {"a": ["zz"], "b": [], "c": []}
        self.assertEqual(raised(row_run, fork(), wrong, "zz", broken=["y"]), ("UnknownHouse", "zz"))
        self.assertEqual(raised(row_run, fork(), wrong, "a", broken=["ah", "y", "z"]), ("UnknownLine", "y"))
        self.assertEqual(raised(row_run, fork(), wrong, "a", broken=["ah"]), ("Unlike", "rows"))
        self.assertEqual(raised(row_run, fork(), wrong, "h"), ("Unlike", "rows"))
        self.assertEqual(raised(row_run, fork(), full_rows(fork()), "h", broken=["a"]), ("UnknownLine", "a"))
        self.assertEqual(raised(row_run, alone(), {"zz": []}, "h"), ("Unlike", "rows"))
        self.assertEqual(raised(row_run, alone(), {}, "a"), ("UnknownHouse", "a"))

    def test_nets_with_an_order(self):
        for seed in range(80):
            net = ordered_net(seed)
            rows = some_rows(net, seed)
            least = min(len(lines) for lines in rows.values())
            for damage in plain_damages(net, least - 1):
                for house in net.houses:
                    end, lines = row_run(net, rows, house, broken=damage)
                    self.assertEqual(end, "home")
                    self.assertLessEqual(len(lines), len(net.others))
            # The full rows hold whatever fewer lines are broken than there are out of each house.
            most = strength(net) - 1
            if most >= 0:
                self.assertIsNone(plain_rows_stop(net, full_rows(net), plain_damages(net, min(most, 2))))


class RowsStopTest(unittest.TestCase):
    def test_fork(self):
        rows = {"a": ["ah"], "b": ["bh"], "c": ["ca"]}
        self.assertIsNone(rows_stop(fork(), rows, 0))
        self.assertEqual(rows_stop(fork(), rows, 1), (["ah"], "a"))
        self.assertEqual(rows_stop(fork(), {"a": ["ac"], "b": ["bh"], "c": ["ca"]}, 1), ([], "a"))
        self.assertEqual(rows_stop(fork(), {"a": ["ah", "ac"], "b": ["bh", "bc"], "c": ["cb", "ca"]}, 2),
                         (["bh"], "b"))

    def test_against_all_runs(self):
        seen = set()
        for seed in range(80):
            net = random_net(seed, 4, 7)
            rows = some_rows(net, seed)
            for most in range(3):
                told = plain_rows_stop(net, rows, plain_damages(net, most))
                self.assertEqual(rows_stop(net, rows, most), told)
                seen.add(told if told is None else len(told[0]))
        self.assertEqual(seen, {None, 0, 1, 2})

    def test_home_alone(self):
        self.assertIsNone(rows_stop(alone(), {}, 30))
        self.assertEqual(raised(rows_stop, alone(), {"h": []}, 2), ("Unlike", "rows"))

    def test_the_limit_and_the_errors(self):
        net = Net("h", [], [(f"l{k}", "h", "h") for k in range(20)])
        self.assertEqual(raised(rows_stop, net, {"h": []}, 2), ("TooMany", "damages", 211, 200))
        self.assertIsNone(rows_stop(net, {}, 1))
        self.assertEqual(raised(rows_stop, large_net(1), {}, 2), ("TooMany", "damages", 466, 200))
        self.assertEqual(raised(rows_stop, large_net(1), {}, 1), ("Unlike", "rows"))
        for most in (-1, 31, 10 ** 59):
            self.assertEqual(raised(rows_stop, net, {"h": []}, most), ("OutOfRange", "most", most))


class FindRowsTest(unittest.TestCase):
    def test_small(self):
        self.assertEqual(find_rows(layered(), 0), {"a": ["a1", "a2"], "b": ["ba", "bh"], "c": ["ca", "cb", "cb2"]})
        net = Net("h", ["a", "b"], [("ab", "a", "b"), ("ah", "a", "h"), ("ba", "b", "a"), ("bh", "b", "h")])
        self.assertEqual(find_rows(net, 0), {"a": ["ab", "ah"], "b": ["bh", "ba"]})
        self.assertIsNone(find_rows(Net("h", ["a"]), 0))
        self.assertIsNone(find_rows(Net("h", ["a", "b"], [("bh", "b", "h")]), 0))
        loop = Net("h", ["a"], [("a1", "a", "a"), ("a2", "a", "h")])
        self.assertEqual(find_rows(loop, 0), {"a": ["a2", "a1"]})

    def test_against_all_arrangements(self):
        seen = set()
        for seed in range(120):
            net = random_net(seed, 3, 6)
            every = plain_arrangements(net)
            for most in range(3):
                damages = plain_damages(net, most)
                if len(every) * len(damages) > 400:
                    self.assertEqual(raised(find_rows, net, most),
                                     ("TooMany", "tries", len(every) * len(damages), 400))
                    continue
                held = [rows for rows in every if plain_rows_stop(net, rows, damages) is None]
                self.assertEqual(find_rows(net, most), held[0] if held else None)
                seen.add((most, bool(held), bool(held) and held[0] != every[0]))
        self.assertLessEqual({(0, True, True), (0, False, False), (1, True, False), (1, False, False)}, seen)

    def test_the_first_of_several(self):
        # Both arrangements of a hold with one of b only, so b decides behind a.
        net = Net("h", ["a", "b"], [("p", "a", "h"), ("q", "a", "h"), ("r", "b", "b"), ("s", "b", "h")])
        self.assertEqual(find_rows(net, 0), {"a": ["p", "q"], "b": ["s", "r"]})

    def test_home_alone(self):
        self.assertEqual(find_rows(Net("h"), 0), {})
        self.assertEqual(find_rows(Net("h"), 30), {})
        self.assertEqual(find_rows(alone(), 2), {})
        loops = Net("h", [], [(f"l{k}", "h", "h") for k in range(9)])
        self.assertEqual(find_rows(loops, 3), {})
        self.assertEqual(find_rows(loops, 4), {})
        self.assertEqual(find_rows(loops, 5), {})
        self.assertEqual(raised(find_rows, loops, 6), ("TooMany", "tries", 466, 400))
        self.assertEqual(raised(find_rows, loops, 30), ("TooMany", "tries", 512, 400))

    def test_the_limit(self):
        # 120 arrangements with 6 damages, and 24 with 15 or 16.
        five = Net("h", ["a"], [(f"l{k}", "a", "h") for k in range(5)])
        self.assertEqual(raised(find_rows, five, 1), ("TooMany", "tries", 720, 400))
        self.assertEqual(find_rows(five, 0), {"a": ["l0", "l1", "l2", "l3", "l4"]})
        four = Net("h", ["a"], [(f"l{k}", "a", "h") for k in range(4)])
        self.assertEqual(find_rows(four, 3), {"a": ["l0", "l1", "l2", "l3"]})
        self.assertIsNone(find_rows(four, 4))
        full = Net("h", ["a"], [(f"l{k:02}", "a", "h") for k in range(30)])
        self.assertEqual(raised(find_rows, full, 0), ("TooMany", "tries", math.factorial(30), 400))
        self.assertEqual(raised(find_rows, full, 30), ("TooMany", "tries", math.factorial(30) * 2 ** 30, 400))
        # Loops and lines out of home count among the damages, loops at a house also among the arrangements.
        wide = Net("h", ["a"], [("aa", "a", "a"), ("ah", "a", "h")] + [(f"l{k}", "h", "a") for k in range(18)])
        self.assertEqual(raised(find_rows, wide, 2), ("TooMany", "tries", 2 * 211, 400))
        for most in (-1, 31, 10 ** 59):
            self.assertEqual(raised(find_rows, full, most), ("OutOfRange", "most", most))

    def test_the_limit_of_all_damages_is_not_checked(self):
        net = Net("h", ["a"], [("ah", "a", "h")] + [(f"l{k:02}", "h", "h") for k in range(19)])
        self.assertIsNone(find_rows(net, 2))
        self.assertEqual(raised(rows_stop, net, {"a": ["ah"]}, 2), ("TooMany", "damages", 211, 200))
        home = Net("h", [], [(f"l{k:02}", "h", "h") for k in range(27)])
        self.assertEqual(find_rows(home, 2), {})
        more = Net("h", [], [(f"l{k:02}", "h", "h") for k in range(28)])
        self.assertEqual(raised(find_rows, more, 2), ("TooMany", "tries", 407, 400))

    def test_exactly_at_the_limit(self):
        # 16 arrangements with 25 damages of at most one line.
        names = ["a", "b", "c", "d"]
        ends = [(house + sign, house, "h") for house in names for sign in "12"]
        net = Net("h", names, ends + [(f"l{k:02}", "h", "h") for k in range(16)])
        self.assertEqual(find_rows(net, 1), {house: [house + "1", house + "2"] for house in names})
        more = Net("h", names, ends + [(f"l{k:02}", "h", "h") for k in range(17)])
        self.assertEqual(raised(find_rows, more, 1), ("TooMany", "tries", 416, 400))


class ForkTest(unittest.TestCase):
    def test_the_fork_net(self):
        net = fork_net()
        self.assertEqual(net, Net("h", ["a", "b", "c"], [("ah", "a", "h"), ("ac", "a", "c"), ("bh", "b", "h"),
                                                         ("bc", "b", "c"), ("ca", "c", "a"), ("cb", "c", "b")]))
        self.assertEqual(strength(net), 2)
        table = table_of(net, build(net, 2)[0])
        self.assertEqual(table.marks, 2)
        self.assertIsNone(first_stop(net, table, 1))
        self.assertIsNone(find_rows(net, 1))
        self.assertIsNotNone(find_rows(net, 0))
        self.assertEqual([least_marks(net, 0), least_marks(net, 1)], [1, 2])
        # None of all rows holds, also none of those that leave lines out.
        lists = [[list(chosen) for size in range(3) for chosen in itertools.permutations(net.out(house), size)]
                 for house in net.others]
        for chosen in itertools.product(*lists):
            self.assertIsNotNone(rows_stop(net, dict(zip(net.others, chosen)), 1))


class FreshTest(unittest.TestCase):
    def test_arguments_and_results(self):
        for seed in range(60):
            net = random_net(seed, 4, 7)
            again = remade(net)
            rows = some_rows(net, seed)
            turned = {house: list(rows[house]) for house in reversed(list(rows))}
            broken = net.line_names[::-2]
            self.assertEqual(unharmed(self, least_marks, net, seed % 4), least_marks(again, seed % 4))
            self.assertEqual(unharmed(self, order_or_ring, net), order_or_ring(again))
            self.assertEqual(unharmed(self, full_rows, net), full_rows(again))
            unharmed(self, is_order, net, net.others)
            unharmed(self, is_ring, net, net.line_names)
            self.assertIs(unharmed(self, is_rows, net, rows), True)
            self.assertEqual(unharmed(self, rows_stop, net, rows, 2), rows_stop(again, turned, 2))
            for start in net.houses:
                self.assertEqual(unharmed(self, row_run, net, rows, start, broken=broken),
                                 row_run(again, turned, start, broken=list(broken)))
            if raised(find_rows, net, 1) is None:
                self.assertEqual(unharmed(self, find_rows, net, 1), find_rows(again, 1))
        self.assertEqual(unharmed(self, fork_net), fork())


if __name__ == "__main__":
    unittest.main()
