import importlib
import inspect
import itertools
import random
import unittest

from markshome.book import Book, audit, first_unlike, is_sound, replay
from markshome.builder import build, finish_log, grove_of_log, log_of_grove
from markshome.buildlog import is_log, leading_lines, takeable, why_not
from markshome.changes import (all_depths, exchange, exchanges, lead_log, put_line, right_start, shorten, swap, swaps,
                               take_line)
from markshome.diary import Diary, timed_run
from markshome.errors import BadText, HomeError
from markshome.flows import strength, weakest_lot
from markshome.groves import all_groves, count_trees
from markshome.hanging import hang, hang_grove, hang_tables, restrict
from markshome.marks import table_of
from markshome.names import ascending
from markshome.nets import Net
from markshome.nettext import read_net, write_net
from markshome.pairs import first_pair_stop, pair_limit, two_way_net
from markshome.renames import find_renaming, rename_grove, rename_lines, rename_net, rename_run, rename_table
from markshome.runs import move_bound, run_letter
from markshome.stops import first_stop, holds, is_stop, starving
from markshome.tables import read_table, write_table
from markshome.trees import is_grove
from markshome.wanting import strengthen, wants
from samples import FORK_LINES, plain_damages, plain_strength, random_log, random_net, strong_net

# The interface: for each module its functions and classes with their parameters.
INTERFACE = {
    "names": {"is_name": "value", "ascending": "names"},
    "nets": {"Net": "home, houses=(), lines=()", "between": "net, tail, head"},
    "nettext": {"write_net": "net", "read_net": "text"},
    "lots": {"is_lot": "net, value", "lot_of": "net, lot", "lines_out": "net, lot", "lines_into": "net, lot",
             "common_part": "first, second", "joined": "first, second", "crossing": "net, first, second",
             "all_lots": "net", "plain_strength": "net", "least_lots": "net, house", "weak_lots": "net, count"},
    "ways": {"is_way": "net, house, way", "is_ways": "net, house, ways", "way_houses": "net, house, way",
             "shortest_way": "net, house, *, broken=()", "distance": "net, house, *, broken=()",
             "home_side": "net, *, broken=()", "cut_off": "net, *, broken=()"},
    "flows": {"most_ways": "net, house, *, broken=()", "is_ways_paper": "net, house, paper",
              "way_count": "net, house, *, broken=()", "has_ways": "net, house, count, *, broken=()",
              "smallest_least_lot": "net, house, *, broken=()", "greatest_least_lot": "net, house, *, broken=()",
              "strength": "net", "weakest_lot": "net", "more_ways": "net, house, ways",
              "unbroken_ways": "ways, broken"},
    "trees": {"is_tree": "net, tree", "is_grove": "net, grove", "first_bad_tree": "net, grove",
              "tree_line": "net, tree, house", "tree_way": "net, tree, house", "depths": "net, tree",
              "depth_sum": "net, tree", "below": "net, tree, house"},
    "groves": {"all_trees": "net", "count_trees": "net", "all_groves": "net, count"},
    "buildlog": {"is_log": "net, count, log, *, whole=True", "log_state": "net, count, log",
                 "why_not": "net, count, log, line", "takeable": "net, count, log", "tight_lots": "net, count, log",
                 "leading_lot": "net, count, log", "leading_lines": "net, count, log"},
    "builder": {"finish_log": "net, count, log", "build": "net, count", "is_build": "net, count, paper",
                "grove_of_log": "net, count, log", "log_of_grove": "net, grove"},
    "tables": {"Table": "marks, entries=()", "write_table": "table", "read_table": "text"},
    "marks": {"table_fault": "net, table", "holes": "net, table", "differences": "first, second",
              "table_of": "net, grove", "grove_of_table": "net, table", "is_grove_table": "net, table"},
    "runs": {"step": "net, table, house, mark, *, broken=()", "Run": "start, mark, end, moves",
             "run_letter": "net, table, start, *, broken=(), mark=0", "is_run": "net, table, broken, paper",
             "move_bound": "net, turns", "lost": "net, table, *, broken=()"},
    "stops": {"all_damages": "net, most", "first_stop": "net, table, most", "holds": "net, table, most",
              "fewest_stop": "net, table, most", "is_stop": "net, table, paper", "starving": "net, table, house",
              "longest": "net, table, most", "cut_damage": "net", "is_cut": "net, paper",
              "thin_stop": "net, table, damage, house"},
    "diary": {"Diary": "events=()", "timed_run": "net, table, start, diary, *, sent=0, mark=0",
              "is_timed_run": "net, table, diary, sent, paper", "ever_broken": "diary, first, last",
              "arrival": "run, sent", "calm_diary": "diary", "shifted": "diary, by"},
    "post": {"Post": "net, table"},
    "pairs": {"is_pairing": "net, pairs", "two_way_net": "home, houses, edges",
              "with_partners": "net, pairs, broken", "pair_limit": "count",
              "all_pair_damages": "net, pairs, most", "first_pair_stop": "net, table, pairs, most"},
    "parted": {"part_houses": "net", "house_ways": "net, house", "house_cut": "net, house",
               "is_house_ways": "net, house, ways", "is_house_cut": "net, house, paper",
               "gather_homes": "net, homes"},
    "fewmarks": {"least_marks": "net, breaks", "is_order": "net, order", "is_ring": "net, ring",
                 "order_or_ring": "net", "is_rows": "net, rows", "full_rows": "net",
                 "row_run": "net, rows, start, *, broken=()", "rows_stop": "net, rows, most",
                 "find_rows": "net, most", "fork_net": ""},
    "loads": {"detour": "net, table, house, *, broken=()", "worst_detour": "net, table, most",
              "loads": "net, table, starts, *, broken=()", "busiest": "net, table, starts, *, broken=()",
              "tree_loads": "net, tree, starts"},
    "changes": {"put_line": "net, name, tail, head", "take_line": "net, line", "exchanges": "net, grove",
                "swaps": "net, grove", "exchange": "net, grove, index, new",
                "swap": "net, grove, first, second, house", "all_depths": "net, grove",
                "shorten": "net, grove, tries", "right_start": "net, count, log", "lead_log": "net, count, log"},
    "wanting": {"wants": "net, count", "is_wants": "net, count, paper", "strengthen": "net, count"},
    "hanging": {"hang": "net, house, part", "hang_grove": "net, grove, part, part_grove",
                "restrict": "net, grove", "hang_tables": "table, part_table"},
    "renames": {"is_renaming": "net, renaming", "rename_net": "net, renaming",
                "rename_lines": "net, names, renaming", "rename_grove": "net, grove, renaming",
                "rename_table": "net, table, renaming", "rename_run": "net, run, renaming",
                "turned": "net, renaming", "chained": "net, first, second", "find_renaming": "first, second",
                "alike": "net, first, second, renaming"},
    "script": {"read_row": "text", "write_row": "words"},
    "book": {"Book": "", "replay": "rows", "audit": "pairs", "first_unlike": "first, second", "is_sound": "book"},
}
METHODS = {
    ("nets", "Net"): {"tail": "line", "head": "line", "out": "house", "into": "house", "has_house": "name",
                      "__eq__": "other", "__sub__": "names", "__contains__": "name", "__iter__": ""},
    ("tables", "Table"): {"entry": "house, mark", "__eq__": "other", "__contains__": "pair", "__iter__": ""},
    ("runs", "Run"): {"__eq__": "other", "__bool__": "", "__iter__": ""},
    ("diary", "Diary"): {"broken_at": "moment", "__eq__": "other", "__add__": "other", "__iter__": ""},
    ("post", "Post"): {"send": "name, house", "break_line": "line", "mend_line": "line", "tick": "", "spot": "name",
                       "history": "name", "sent": "name"},
    ("book", "Book"): {"do": "row", "undo": "", "twin": "", "net": "name", "broken_lines": "name", "built": "name",
                       "log": "name", "grove": "name", "table": "name", "__eq__": "other", "__iter__": ""},
}
PROPERTIES = [
    (lambda: Net("h"), "home houses others lines line_names"),
    (lambda: table_of(Net("h"), []), "marks entries"),
    (lambda: run_letter(Net("h"), table_of(Net("h"), []), "h"),
     "start mark end moves paper steps turns met places last"),
    (lambda: Diary(), "events last"),
    (lambda: importlib.import_module("markshome.post").Post(Net("h"), table_of(Net("h"), [])),
     "moment damage diary settled"),
    (lambda: Book(), "rows names"),
]
ERRORS = {"BadName": "name", "OutOfRange": "what value", "TooMany": "what count limit", "Duplicate": "name",
          "UnknownHouse": "name", "UnknownLine": "name", "BadLot": "name", "BadPair": "first second",
          "Weak": "strength count", "BadTree": "index", "BadLog": "place", "BadTable": "house mark",
          "Unlike": "what", "BadText": "row place"}


def parameters(call):
    """The parameters of a call as a text, without the object of a method."""
    told = list(inspect.signature(call).parameters.values())
    told = [one for one in told if one.name != "self"]
    return str(inspect.Signature(told))[1:-1]


def kept_kinds(text):
    """The parameters of a text without the names of those that are passed by position."""
    ahead, star, behind = text.partition("*, ")
    kinds = ["=" + part.split("=")[1] if "=" in part else "" for part in ahead.split(", ") if part]
    return kinds, star, behind


class InterfaceTest(unittest.TestCase):
    def test_every_call(self):
        for module, calls in INTERFACE.items():
            place = importlib.import_module(f"markshome.{module}")
            for name, told in calls.items():
                call = getattr(place, name)
                self.assertEqual(call.__module__, f"markshome.{module}", name)
                self.assertEqual(kept_kinds(parameters(call)), kept_kinds(told), name)

    def test_every_method(self):
        for (module, name), methods in METHODS.items():
            kind = getattr(importlib.import_module(f"markshome.{module}"), name)
            for method, told in methods.items():
                self.assertIn(method, vars(kind))
                self.assertEqual(kept_kinds(parameters(vars(kind)[method])), kept_kinds(told), method)

    def test_every_property(self):
        for make, names in PROPERTIES:
            for name in names.split():
                value = getattr(make(), name)
                self.assertFalse(callable(value), name)

    def test_every_error(self):
        place = importlib.import_module("markshome.errors")
        self.assertTrue(issubclass(HomeError, ValueError))
        for name, fields in ERRORS.items():
            kind = getattr(place, name)
            self.assertEqual(kind.__bases__, (HomeError,))
            values = list(range(len(fields.split())))
            error = kind(*values)
            self.assertEqual([getattr(error, field) for field in fields.split()], values)

    def test_constants(self):
        place = importlib.import_module("markshome.names")
        told = [place.MOST_HOUSES, place.MOST_LINES, place.MOST_TREES, place.MOST_LOT_HOUSES, place.MOST_CHOICES,
                place.MOST_DAMAGES]
        self.assertEqual(told, [12, 30, 4, 9, 400, 200])


class ExamplesTest(unittest.TestCase):
    def test_names_and_texts(self):
        self.assertEqual(ascending(["b", "a", "b", "a2"]), ["a", "a2", "b"])
        net = Net("h", ["b", "a"], [("y", "b", "a"), ("x", "a", "h")])
        self.assertEqual(write_net(net), "home h\nhouse a\nhouse b\nline x a h\nline y b a")
        with self.assertRaises(BadText) as told:
            read_net("home h\nhouse a\nline x a b")
        self.assertEqual((told.exception.row, told.exception.place), (3, 10))

    def test_the_fork(self):
        net = Net("h", ["a", "b", "c"], FORK_LINES)
        self.assertEqual([count_trees(net), all_groves(net, 2)], [4, [[["ac", "bh", "cb"], ["ah", "bc", "ca"]]]])
        self.assertEqual(why_not(net, 2, [(0, "ah")], "bh"), ("lot", ["a", "b", "c"]))
        self.assertEqual(build(net, 2)[0], [["ah", "bc", "ca"], ["ac", "bh", "cb"]])
        self.assertEqual(build(net, 2)[1], [(0, "ah"), (0, "ca"), (0, "bc"), (1, "bh"), (1, "cb"), (1, "ac")])
        self.assertEqual(build(net, 3), (None, None, ["a"]))
        table = table_of(net, [["ah", "bc", "ca"], ["ac", "bh", "cb"]])
        run = run_letter(net, table, "c", broken=["ah"])
        self.assertEqual(run.moves, [("pass", "ca", "a", 0), ("turn", "ah", "a", 1), ("pass", "ac", "c", 1),
                                     ("pass", "cb", "b", 1), ("pass", "bh", "h", 1)])
        self.assertEqual([run.end, run.steps, run.turns, run.met, run.places],
                         ["home", 4, 1, ["ah"], ["c", "a", "c", "b", "h"]])

    def test_wants_and_book(self):
        net = Net("h", ["a", "b"], [("x", "a", "h"), ("y", "b", "a")])
        self.assertEqual(wants(net, 2)[0], [("a", 1), ("b", 1)])
        book = replay(["net n h", "house n a", "line n x a h", "build n 2", "build n 1"])
        self.assertEqual([answer for row, answer in book.rows],
                         ["houses 1 lines 0", "houses 2 lines 0", "houses 2 lines 1", "lot a", "trees 1"])
        self.assertEqual([book.do("line n y a h"), book.do("cut n x"), book.do("break n y"), book.do("send n a")],
                         ["kept 1 of 1", "kept 0 of 1", "broken y", "stuck 0 0"])


def built_cases():
    """Nets with a count and a grove that is built by taking lines by chance."""
    found = []
    for seed in range(30):
        net = strong_net(seed, 1 + seed % 4, 1 + seed % 3, seed % 3)
        count = 1 + seed % min(4, plain_strength(net))
        log = random_log(net, count, seed)
        found.append((net, count, log, grove_of_log(net, count, log)))
    return found


CASES = built_cases()


class BuildingTest(unittest.TestCase):
    def test_every_right_log_can_be_finished(self):
        # Point 36, over logs, groves and strengths.
        for net, count, log, _ in CASES:
            for length in range(len(log)):
                free = takeable(net, count, log[:length])
                self.assertTrue(free)
                self.assertTrue(set(leading_lines(net, count, log[:length])) <= set(free))
                self.assertTrue(leading_lines(net, count, log[:length]))
                whole = finish_log(net, count, log[:length])
                self.assertIs(is_log(net, count, whole), True)
                grove = grove_of_log(net, count, whole)
                self.assertIs(is_grove(net, grove), True)
                self.assertEqual(len(grove), count)
                done = grove_of_log(net, count, log[:length])
                self.assertIs(is_grove(net, done), True)
                self.assertEqual(done, grove[:len(done)])

    def test_every_grove_has_a_right_log(self):
        # Points 36 and 41: a grove shows the strength, and its log builds it.
        many = 0
        for seed in range(40):
            net = random_net(seed, 3, 8)
            for count in range(1, 4):
                groves = all_groves(net, count) if net.others else []
                self.assertEqual(bool(groves), bool(net.others) and strength(net) >= count)
                for grove in groves[:4]:
                    for order in itertools.permutations(grove):
                        log = log_of_grove(net, list(order))
                        self.assertIs(is_log(net, count, log), True)
                        self.assertEqual(grove_of_log(net, count, log), list(order))
                        many += 1
        self.assertGreater(many, 40)


class LetterTest(unittest.TestCase):
    def check_run(self, net, run, marks, mark):
        """What points 55 and 66 say of the run of a letter by the table of a grove."""
        self.assertIn(run.end, ("home", "stuck"))
        self.assertEqual(len(run.met), len(set(run.met)))
        if run.end == "stuck":
            self.assertEqual(len(run.met), max(0, marks - mark))
        self.assertLessEqual(len(run.moves), move_bound(net, run.turns))

    def test_letters_come_home(self):
        # Point 55, from the net over its grove and table to the runs.
        ends = set()
        for net, count, _, grove in CASES:
            table = table_of(net, grove)
            for damage in plain_damages(net, 2):
                for house, mark in itertools.product(net.others, range(count + 2)):
                    run = run_letter(net, table, house, broken=damage, mark=mark)
                    if mark <= count:
                        self.check_run(net, run, count, mark)
                    else:
                        self.assertEqual(run.moves, [("stuck", None, house, mark)])
                    if len(damage) < count - mark:
                        self.assertEqual(run.end, "home")
                    ends.add((count, run.end, mark))
            self.assertIs(holds(net, table, min(count - 1, 1)), True)
            for house in net.others:
                self.assertIs(is_stop(net, table, (starving(net, table, house), house)), True)
        self.assertIn((2, "stuck", 0), ends)

    def test_letters_come_home_in_time(self):
        # Point 66, with lines that break and are mended under way.
        late = 0
        for seed, (net, count, _, grove) in enumerate(CASES):
            table = table_of(net, grove)
            chance = random.Random(seed)
            for _ in range(12):
                diary = Diary([(chance.randint(0, 12), chance.choice(["break", "break", "mend"]),
                                chance.choice(net.line_names)) for _ in range(chance.randint(0, 8))])
                sent = chance.randint(0, 6)
                for house, mark in itertools.product(net.others, range(count + 1)):
                    run = timed_run(net, table, house, diary, sent=sent, mark=mark)
                    self.check_run(net, run, count, mark)
                    met = set(line for moment in range(sent, sent + len(run.moves))
                              for line in diary.broken_at(moment))
                    if mark == 0 and len(met) <= count - 1:
                        self.assertEqual(run.end, "home")
                        late += bool(met)
        self.assertGreater(late, 100)

    def test_letters_come_home_behind_broken_pairs(self):
        # Point 74, over two-way nets.
        bearing = set()
        for seed in range(80):
            chance = random.Random(seed)
            others = [f"x{k}" for k in range(1 + seed % 3)]
            edges = [(f"e{k}", chance.choice(others), chance.choice(["h"] + others))
                     for k in range(chance.randint(3, 9))]
            net, pairs = two_way_net("h", others, edges)
            for count in range(1, min(4, strength(net)) + 1):
                table = table_of(net, build(net, count)[0])
                self.assertIsNone(first_pair_stop(net, table, pairs, pair_limit(count)))
                if count >= 2:
                    self.assertIsNone(first_pair_stop(net, table, pairs, 1))
                bearing.add((count, pair_limit(count)))
        self.assertLessEqual({(1, 0), (2, 0), (3, 1)}, bearing)


class ChangesTest(unittest.TestCase):
    def test_groves_after_exchanges_and_swaps(self):
        # Point 91, with what comes after: the changed grove has a log, a table and its runs.
        made = [0, 0]
        for net, count, _, grove in CASES:
            after = [exchange(net, grove, index, new) for index, _, new in exchanges(net, grove)]
            made[0] += len(after)
            swapped = [swap(net, grove, *told) for told in swaps(net, grove)]
            made[1] += len(swapped)
            for trees in after + swapped:
                self.assertIs(is_grove(net, trees), True)
                self.assertEqual(len(trees), count)
                self.assertIs(is_log(net, count, log_of_grove(net, trees)), True)
            short, number = shorten(net, grove, 20)
            self.assertIs(is_grove(net, short), True)
            self.assertLessEqual(all_depths(net, short), all_depths(net, grove) - number)
            self.assertIs(holds(net, table_of(net, short), min(count - 1, 1)), True)
        self.assertGreater(min(made), 5)

    def test_groves_and_logs_of_changed_nets(self):
        # Points 92 and 93, with the book's row `line`.
        for net, count, log, grove in CASES[:16]:
            for tail, head in itertools.product(net.houses, net.houses):
                more = put_line(net, "new", tail, head)
                self.assertIs(is_grove(more, grove), True)
                self.assertEqual(right_start(more, count, log), len(log))
                self.assertEqual(lead_log(more, count, log), (log, len(log), None))
                self.assertEqual(take_line(more, "new"), net)
            used = [line for tree in grove for line in tree]
            for line in net.line_names:
                less = take_line(net, line)
                self.assertIs(is_grove(less, grove), line not in used)
                led, kept, lot = lead_log(less, count, log)
                self.assertEqual(led is None, strength(less) < count)
                if led is None:
                    self.assertEqual((kept, lot), (0, weakest_lot(less)))
                else:
                    self.assertIs(is_log(less, count, led), True)
                    self.assertEqual(led[:kept], log[:kept])

    def test_strengthened_nets_can_be_built(self):
        for seed in range(40):
            net = random_net(seed, 4, 8)
            for count in range(4):
                if len(net.lines) + sum(number for _, number in wants(net, count)[0]) <= 30:
                    more = strengthen(net, count)
                    self.assertIs(is_grove(more, build(more, count)[0]), True)
                    self.assertEqual(more == net, wants(net, count) == ([], []))


class HungTest(unittest.TestCase):
    def test_hung_nets_groves_and_tables(self):
        # Points 99 and 100, from two nets to the runs by both tables.
        part = Net("p", ["y", "z"], [("r1", "y", "p"), ("r2", "y", "z"), ("r3", "z", "p"), ("r4", "z", "y"),
                                     ("r5", "p", "y")])
        for net, count, _, grove in CASES:
            if count > 2:
                continue
            other = build(part, count)[0]
            table = hang_tables(table_of(net, grove), table_of(part, other))
            for house in net.houses:
                hung = hang(net, house, part)
                self.assertEqual(strength(hung), min(strength(net), 2))
                trees = hang_grove(net, grove, part, other)
                self.assertEqual(table_of(hung, trees), table)
                self.assertEqual((restrict(net, trees), restrict(part, trees)), (grove, other))
                for damage in [[]] + [[line] for line in hung.line_names]:
                    first = run_letter(part, table_of(part, other), "y", broken=[x for x in damage if x in part])
                    whole = run_letter(hung, table, "y", broken=damage)
                    self.assertEqual([move[:2] for move in whole.moves[:len(first.moves)]],
                                     [move[:2] for move in first.moves])
                    if first.end == "home":
                        rest = run_letter(net, table_of(net, grove), house, mark=first.last[1],
                                          broken=[x for x in damage if x in net])
                        self.assertEqual(whole.moves[len(first.moves):], rest.moves)
                        self.assertEqual(whole.end, rest.end)
                    else:
                        self.assertEqual(whole.end, first.end)


class RenamedTest(unittest.TestCase):
    def test_renamed_nets_groves_tables_and_runs(self):
        # Point 102, with groves, texts and the search for a renaming.
        for seed, (net, count, _, grove) in enumerate(CASES):
            chance = random.Random(seed)
            houses, lines = net.houses, net.line_names
            chance.shuffle(houses)
            chance.shuffle(lines)
            renaming = (dict(zip(net.houses, houses)), dict(zip(net.line_names, lines)))
            other = rename_net(net, renaming)
            trees = rename_grove(net, grove, renaming)
            table = rename_table(net, table_of(net, grove), renaming)
            self.assertEqual(table_of(other, trees), table)
            self.assertEqual(read_table(write_table(table)), table)
            self.assertEqual(read_net(write_net(other)), other)
            self.assertEqual(strength(other), strength(net))
            self.assertEqual(rename_net(net, find_renaming(net, other)), other)
            for damage in plain_damages(net, 1) + [net.line_names[::2]]:
                for house in net.houses:
                    run = run_letter(net, table_of(net, grove), house, broken=damage)
                    told = run_letter(other, table, renaming[0][house], broken=rename_lines(net, damage, renaming))
                    self.assertEqual(rename_run(net, run, renaming), told)


class BookTest(unittest.TestCase):
    def test_the_answers_are_those_of_the_other_modules(self):
        # Point 106, row by row beside the functions that the rows stand for.
        for net, count, log, _ in CASES:
            book = replay([f"net n {net.home}"] + [f"house n {house}" for house in net.others]
                          + [f"line n {name} {tail} {head}" for name, tail, head in net.lines])
            self.assertEqual(book.net("n"), net)
            self.assertEqual(book.do(f"build n {count}"), f"trees {count}")
            grove, told, _ = build(net, count)
            self.assertEqual((book.log("n"), book.grove("n"), book.table("n")), (told, grove, table_of(net, grove)))
            stop = first_stop(net, book.table("n"), 1)
            self.assertEqual(book.do("worst n 1"),
                             "holds" if stop is None else " ".join(["stops", stop[1], "by"] + stop[0]))
            line = net.line_names[0]
            book.do(f"break n {line}")
            for house in net.houses:
                run = run_letter(net, book.table("n"), house, broken=[line])
                self.assertEqual(book.do(f"send n {house}"), f"{run.end} {run.steps} {run.turns}")
            book.do("line n new h h")
            self.assertEqual(book.rows[-1][1], f"kept {len(told)} of {len(told)}")
            led, kept, lot = lead_log(put_line(net, "new", "h", "h") - [line], count, told)
            answer = " ".join(["lot"] + lot) if led is None else f"kept {kept} of {len(told)}"
            self.assertEqual(book.do(f"cut n {line}"), answer)
            self.assertEqual(book.broken_lines("n"), [])
            self.assertEqual(book.built("n"), None if led is None else count)
            # Point 108.
            self.assertIs(is_sound(book), True)
            again = replay([row for row, _ in book])
            self.assertTrue(again == book)
            self.assertEqual((audit(book.rows), first_unlike(again, book)), (None, None))
            again.undo()
            self.assertEqual(first_unlike(again, book), len(book.rows))


if __name__ == "__main__":
    unittest.main()
