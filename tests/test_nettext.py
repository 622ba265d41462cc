import itertools
import unittest

from markshome.nets import Net
from markshome.nettext import read_net, write_net
from samples import alone, fork, large_net, mixed, raised, random_net, remade, unharmed


class WriteTest(unittest.TestCase):
    def test_the_example(self):
        net = Net("h", ["b", "a"], [("y", "b", "a"), ("x", "a", "h")])
        self.assertEqual(write_net(net), "home h\nhouse a\nhouse b\nline x a h\nline y b a")

    def test_home_alone(self):
        self.assertEqual(write_net(Net("home")), "home home")
        self.assertEqual(write_net(alone()), "home h\nline l1 h h\nline l2 h h")

    def test_home_in_the_middle_of_the_names(self):
        self.assertEqual(write_net(Net("b", ["c", "a"])), "home b\nhouse a\nhouse c")

    def test_equal_nets_give_equal_texts(self):
        for net in [fork(), mixed()]:
            self.assertEqual(write_net(net), write_net(remade(net)))

    def test_leaves_its_argument(self):
        unharmed(self, write_net, mixed())


class ReadTest(unittest.TestCase):
    def test_reads_what_was_written(self):
        nets = [fork(), mixed(), alone(), Net("h"), large_net(1)] + [random_net(seed) for seed in range(40)]
        for net in nets:
            self.assertEqual(read_net(write_net(net)), net)

    def test_reads_any_order_of_rows(self):
        rows = ["house a", "house b", "line x a h", "line y b a", "line a h h"]
        net = Net("h", ["a", "b"], [("x", "a", "h"), ("y", "b", "a"), ("a", "h", "h")])
        read = 0
        for order in itertools.permutations(rows):
            if order.index("house a") < order.index("line x a h"):
                if max(order.index("house a"), order.index("house b")) < order.index("line y b a"):
                    self.assertEqual(read_net("\n".join(("home h",) + order)), net)
                    read += 1
        self.assertEqual(read, 25)

    def test_words_that_are_names(self):
        net = Net("home", ["house", "line"], [("line", "line", "home"), ("home", "house", "line")])
        self.assertEqual(read_net("home home\nhouse line\nline line line home\nhouse house\nline home house line"), net)


class FaultTest(unittest.TestCase):
    def fault(self, text, row, place):
        self.assertEqual(raised(read_net, text), ("BadText", row, place), repr(text))

    def test_the_example(self):
        self.fault("home h\nhouse a\nline x a b", 3, 10)

    def test_first_word(self):
        for text in ["", "\n", "house h", "line x h h", "Home h", "homes h", " home h", "home\th", "h"]:
            self.fault(text, 1, 1)
        for row in ["", "home h", "home", "lines x a h", "House b", "house\tb", " house b", " ", "x a h"]:
            self.fault("home h\nhouse a\n" + row, 3, 1)

    def test_home_row(self):
        self.fault("home", 1, 5)
        self.fault("home ", 1, 6)
        self.fault("home  h", 1, 6)
        self.fault("home H", 1, 6)
        self.fault("home abcdefghi", 1, 6)
        self.fault("home h ", 1, 8)
        self.fault("home h a", 1, 8)
        self.fault("home h  a", 1, 8)
        self.fault("home H a", 1, 6)

    def test_house_row(self):
        self.fault("home h\nhouse", 2, 6)
        self.fault("home h\nhouse ", 2, 7)
        self.fault("home h\nhouse  a", 2, 7)
        self.fault("home h\nhouse 1", 2, 7)
        self.fault("home h\nhouse h", 2, 7)
        self.fault("home h\nhouse a\nhouse b\nhouse a", 4, 7)
        self.fault("home h\nhouse a b", 2, 9)
        self.fault("home h\nhouse abc ", 2, 11)
        self.fault("home h\nhouse h b", 2, 7)

    def test_line_row(self):
        start = "home h\nhouse a\nline x a h\n"
        self.fault(start + "line", 4, 5)
        self.fault(start + "line ", 4, 6)
        self.fault(start + "line y", 4, 7)
        self.fault(start + "line y ", 4, 8)
        self.fault(start + "line y a", 4, 9)
        self.fault(start + "line y a ", 4, 10)
        self.fault(start + "line Y a h", 4, 6)
        self.fault(start + "line x a h", 4, 6)
        self.fault(start + "line x", 4, 6)
        self.fault(start + "line y b h", 4, 8)
        self.fault(start + "line yy B h", 4, 9)
        self.fault(start + "line y x h", 4, 8)
        self.fault(start + "line y a b", 4, 10)
        self.fault(start + "line y b c d", 4, 8)
        self.fault(start + "line y a h h", 4, 12)
        self.fault(start + "line y a h ", 4, 12)
        self.fault(start + "line y  a h", 4, 8)
        self.fault(start + "line  y a h", 4, 6)
        self.fault(start + "line y b", 4, 8)

    def test_names_of_houses_and_lines_are_not_compared(self):
        net = Net("h", ["a"], [("a", "a", "h"), ("h", "a", "a")])
        self.assertEqual(read_net("home h\nhouse a\nline a a h\nline h a a"), net)

    def test_end_that_comes_later(self):
        self.fault("home h\nline x a h\nhouse a", 2, 8)
        self.fault("home h\nhouse a\nline x a b\nhouse b", 3, 10)

    def test_newline_at_the_end_and_empty_rows(self):
        self.fault("home h\n", 2, 1)
        self.fault("home h\nhouse a\n", 3, 1)
        self.fault("home h\n\nhouse a", 2, 1)
        self.fault("\nhome h", 1, 1)

    def test_twelfth_house_row(self):
        rows = ["home h"] + [f"house a{k}" for k in range(11)]
        self.assertEqual(len(read_net("\n".join(rows)).houses), 12)
        for row in ["house b", "house a0", "house", "house B", "house b c"]:
            self.fault("\n".join(rows + [row]), 13, 1)
        self.fault("\n".join(rows + ["line x a0 h", "house b"]), 14, 1)

    def test_thirty_first_line_row(self):
        rows = ["home h"] + [f"line l{k} h h" for k in range(30)]
        self.assertEqual(len(read_net("\n".join(rows)).lines), 30)
        for row in ["line b h h", "line l0 h h", "line", "line b x"]:
            self.fault("\n".join(rows + [row]), 32, 1)
        self.fault("\n".join(rows + ["house a", "line b h a"]), 33, 1)

    def test_first_faulty_row(self):
        self.fault("home h\nhouse A\nhouse B\n", 2, 7)
        self.fault("home h\nhouse a b\nhouse A", 2, 9)
        self.fault("home h\nhouse a\nline x c d\nline Y", 3, 8)


if __name__ == "__main__":
    unittest.main()
