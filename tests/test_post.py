import random
import unittest

from markshome.builder import build
from markshome.diary import Diary, timed_run
from markshome.marks import table_of
from markshome.post import Post
from markshome.runs import step
from markshome.tables import Table
from samples import (alone, fork, mixed, plain_broken, plain_strength, raised, random_net, random_table, remade,
                     strong_net)

TABLE = table_of(fork(), [["ah", "bc", "ca"], ["ac", "bh", "cb"]])


def names_of(post):
    """Everything that a post tells, but for its letters."""
    return (post.moment, post.damage, post.diary.events, post.settled)


def told(post, letters):
    """Everything that a post tells."""
    return names_of(post), [(post.spot(name), post.history(name), post.sent(name)) for name in letters]


def full_post():
    """A post with twelve letters and forty events."""
    post = Post(fork(), TABLE)
    for k in range(12):
        post.send(f"m{k}", "abch"[k % 4])
    for k in range(40):
        (post.break_line if k % 3 else post.mend_line)(fork().line_names[k % 6])
    return post


class BeginningTest(unittest.TestCase):
    def test_a_new_post(self):
        for net, table in [(fork(), TABLE), (alone(), Table(3)), (fork(), Table(0)), (fork(), Table(4))]:
            post = Post(net, table)
            self.assertEqual(names_of(post), (0, [], [], True))
            self.assertIs(post.settled, True)
            self.assertIsInstance(post.diary, Diary)
            self.assertEqual(post.tick(), [])
            self.assertEqual(names_of(post), (1, [], [], True))

    def test_a_table_that_does_not_fit(self):
        self.assertEqual(raised(Post, fork(), Table(2, [("b", 1, "ah", 0), ("a", 1, "bh", 0)])), ("BadTable", "a", 1))
        self.assertEqual(raised(Post, alone(), Table(1, [("h", 0, "l1", 0)])), ("BadTable", "h", 0))


class SendTest(unittest.TestCase):
    def test_a_letter(self):
        post = Post(fork(), TABLE)
        self.assertIsNone(post.send("m", "c"))
        self.assertEqual((post.spot("m"), post.history("m"), post.sent("m")), (("c", 0, "under way"), [], 0))
        self.assertIs(post.settled, False)
        self.assertEqual(post.tick(), [("m", ("pass", "ca", "a", 0))])
        self.assertEqual((post.spot("m"), post.moment), (("a", 0, "under way"), 1))
        self.assertEqual(post.tick(), [("m", ("pass", "ah", "h", 0))])
        self.assertEqual(post.spot("m"), ("h", 0, "home"))
        self.assertEqual(post.history("m"), [("pass", "ca", "a", 0), ("pass", "ah", "h", 0)])
        self.assertIs(post.settled, True)
        self.assertEqual(post.tick(), [])
        self.assertEqual((post.moment, post.sent("m"), len(post.history("m"))), (3, 0, 2))

    def test_from_home(self):
        post = Post(fork(), TABLE)
        post.tick()
        post.send("m", "h")
        self.assertEqual((post.spot("m"), post.history("m"), post.sent("m")), (("h", 0, "home"), [], 1))
        self.assertIs(post.settled, True)
        self.assertEqual(post.tick(), [])
        self.assertEqual(post.history("m"), [])

    def test_stuck(self):
        post = Post(fork(), Table(1, [("a", 0, "ah", None)]))
        post.break_line("ah")
        post.send("m2", "a")
        post.send("m10", "b")
        self.assertEqual(post.tick(), [("m10", ("stuck", None, "b", 0)), ("m2", ("stuck", "ah", "a", 0))])
        self.assertEqual([post.spot("m2"), post.spot("m10")], [("a", 0, "stuck"), ("b", 0, "stuck")])
        self.assertIs(post.settled, True)
        post.mend_line("ah")
        self.assertEqual(post.tick(), [])
        self.assertEqual(post.history("m2"), [("stuck", "ah", "a", 0)])

    def test_round_and_round(self):
        post = Post(mixed(), Table(1, [("a", 0, "aa", None), ("b", 0, "bh", 0)]))
        post.break_line("bh")
        post.send("m", "a")
        post.send("n", "b")
        for moment in range(99):
            self.assertEqual(post.tick(), [("m", ("pass", "aa", "a", 0)), ("n", ("turn", "bh", "b", 0))])
            self.assertEqual(post.spot("m"), ("a", 0, "under way"))
        self.assertEqual((len(post.history("m")), post.moment, post.settled), (99, 99, False))

    def test_ascending_by_name(self):
        post = Post(fork(), TABLE)
        for name in ["m2", "b", "m10", "a1", "a"]:
            post.send(name, "c")
        self.assertEqual([name for name, _ in post.tick()], ["a", "a1", "b", "m10", "m2"])

    def test_errors(self):
        post = full_post()
        before = told(post, [f"m{k}" for k in range(12)])
        for name in ("", "M", "a b", "abcdefghi", "1a"):
            self.assertEqual(raised(post.send, name, "z"), ("BadName", name))
        self.assertEqual(raised(post.send, "m0", "z"), ("TooMany", "letters", 13, 12))
        self.assertEqual(raised(post.send, "new", "a"), ("TooMany", "letters", 13, 12))
        self.assertEqual(told(post, [f"m{k}" for k in range(12)]), before)
        post = Post(fork(), TABLE)
        post.tick()
        post.send("m", "h")
        post.tick()
        before = told(post, ["m"])
        self.assertEqual(raised(post.send, "m", "z"), ("Duplicate", "m"))
        self.assertEqual(raised(post.send, "m", "a"), ("Duplicate", "m"))
        for house in ("z", "ah", "", "A"):
            self.assertEqual(raised(post.send, "n", house), ("UnknownHouse", house))
        self.assertEqual(told(post, ["m"]), before)
        self.assertEqual(raised(post.spot, "n"), ("Unlike", "letter"))
        self.assertIsNone(post.send("n", "a"))

    def test_twelve_letters_ever(self):
        post = Post(fork(), TABLE)
        for k in range(12):
            post.send(f"m{k}", "h")
        self.assertIs(post.settled, True)
        self.assertEqual(raised(post.send, "m", "a"), ("TooMany", "letters", 13, 12))


class EventsTest(unittest.TestCase):
    def test_an_event_has_its_effect_at_once(self):
        post = Post(fork(), TABLE)
        self.assertIsNone(post.break_line("ah"))
        self.assertEqual((post.damage, post.diary.events), (["ah"], [(0, "break", "ah")]))
        self.assertIsNone(post.break_line("ac"))
        self.assertEqual(post.damage, ["ac", "ah"])
        self.assertIsNone(post.mend_line("ah"))
        self.assertEqual(post.damage, ["ac"])
        post.tick()
        post.mend_line("bh")
        post.mend_line("ac")
        self.assertEqual(post.damage, [])
        self.assertEqual(post.diary.events, [(0, "break", "ah"), (0, "break", "ac"), (0, "mend", "ah"),
                                             (1, "mend", "bh"), (1, "mend", "ac")])

    def test_the_present_damage_counts(self):
        post = Post(fork(), TABLE)
        post.send("m", "a")
        post.break_line("ah")
        self.assertEqual(post.tick(), [("m", ("turn", "ah", "a", 1))])
        self.assertEqual(post.spot("m"), ("a", 1, "under way"))
        post.break_line("ac")
        post.mend_line("ac")
        self.assertEqual(post.tick(), [("m", ("pass", "ac", "c", 1))])

    def test_forty_events(self):
        post = full_post()
        self.assertEqual(len(post.diary.events), 40)
        before = names_of(post)
        for call in (post.break_line, post.mend_line):
            self.assertEqual(raised(call, "ah"), ("TooMany", "events", 41, 40))
            self.assertEqual(raised(call, "zz"), ("TooMany", "events", 41, 40))
        self.assertEqual(names_of(post), before)

    def test_unknown_lines(self):
        post = Post(fork(), TABLE)
        for call in (post.break_line, post.mend_line):
            for line in ("zz", "a", "", "A"):
                self.assertEqual(raised(call, line), ("UnknownLine", line))
        self.assertEqual(names_of(post), (0, [], [], True))


class MomentTest(unittest.TestCase):
    def test_the_last_moment(self):
        post = Post(fork(), TABLE)
        for moment in range(99):
            self.assertEqual(post.moment, moment)
            self.assertEqual(post.tick(), [])
        post.send("m", "a")
        post.break_line("ah")
        self.assertEqual((post.moment, post.damage, post.sent("m")), (99, ["ah"], 99))
        for _ in range(3):
            self.assertEqual(raised(post.tick), ("OutOfRange", "moment", 100))
            self.assertEqual(told(post, ["m"]), ((99, ["ah"], [(99, "break", "ah")], False),
                                                 [(("a", 0, "under way"), [], 99)]))
        post.mend_line("ah")
        self.assertEqual(post.damage, [])


class LettersTest(unittest.TestCase):
    def test_no_such_letter(self):
        post = Post(fork(), TABLE)
        post.send("m", "a")
        for call in (post.spot, post.history, post.sent):
            for name in ("n", "", "a", "M"):
                self.assertEqual(raised(call, name), ("Unlike", "letter"))

    def test_every_list_is_new(self):
        post = Post(fork(), TABLE)
        post.send("m", "c")
        post.break_line("ah")
        ticked = post.tick()
        for read in (lambda: post.history("m"), lambda: post.damage, lambda: post.diary.events):
            before = read()
            read().append("spoilt")
            self.assertEqual(read(), before)
            self.assertIsNot(read(), read())
        ticked.append("spoilt")
        self.assertEqual(post.tick(), [("m", ("turn", "ah", "a", 1))])
        diary = post.diary
        post.break_line("bh")
        self.assertEqual(diary.events, [(0, "break", "ah")])


class RunsTest(unittest.TestCase):
    def play(self, net, table, seed):
        """A post that is used by chance; each tick is held against the moves by the present damage."""
        chance = random.Random(seed)
        post = Post(net, table)
        letters = {}
        events = []
        for _ in range(chance.randint(5, 40)):
            deed = chance.random()
            if deed < 0.2 and len(letters) < 12:
                name = f"m{len(letters)}"
                letters[name] = chance.choice(net.houses)
                post.send(name, letters[name])
                self.assertEqual(post.sent(name), post.moment)
            elif deed < 0.5 and len(events) < 40 and net.lines:
                line = chance.choice(net.line_names)
                word = chance.choice(["break", "break", "mend"])
                (post.break_line if word == "break" else post.mend_line)(line)
                events.append((post.moment, word, line))
            else:
                before = {name: post.spot(name) for name in letters}
                due = [(name, step(net, table, *before[name][:2], broken=post.damage))
                       for name in sorted(letters) if before[name][2] == "under way"]
                self.assertEqual(post.tick(), due)
            self.assertEqual(post.damage, plain_broken(events, post.moment))
            self.assertEqual(post.diary.events, events)
            self.assertIs(post.settled, all(post.spot(name)[2] != "under way" for name in letters))
        return post, letters

    def test_against_runs_in_time(self):
        states = set()
        for seed in range(120):
            net = strong_net(seed, 1 + seed % 5, 1 + seed % 2, seed % 4) if seed % 3 else random_net(seed)
            table = random_table(net, seed)
            if seed % 3 == 1:
                table = table_of(net, build(net, min(plain_strength(net), seed % 4))[0])
            post, letters = self.play(net, table, seed)
            for name, house in letters.items():
                run = timed_run(net, table, house, post.diary, sent=post.sent(name))
                place, mark, state = post.spot(name)
                moves = post.history(name)
                states.add(state)
                if state == "under way":
                    shorter = min(len(moves), len(run.moves))
                    self.assertEqual(moves[:shorter], run.moves[:shorter])
                else:
                    self.assertEqual(moves, run.moves)
                    self.assertEqual((state, (place, mark)), (run.end, run.last))
        self.assertEqual(states, {"under way", "home", "stuck"})

    def test_the_same_calls_give_the_same(self):
        for seed in range(20):
            net = strong_net(seed, 3, 2, 2)
            table = random_table(net, seed)
            again = Table(table.marks, tuple(reversed(table.entries)))
            first, letters = self.play(net, table, seed)
            second, _ = self.play(remade(net), again, seed)
            self.assertEqual(told(first, letters), told(second, letters))


if __name__ == "__main__":
    unittest.main()
