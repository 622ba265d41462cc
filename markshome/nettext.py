"""The text of a net, and the faults of the rows of a text."""

from markshome.errors import BadText
from markshome.names import MOST_HOUSES, MOST_LINES, is_name
from markshome.nets import Net


def word_at(words, index):
    """The word with this index, or the empty word where a word is missing."""
    return words[index] if index < len(words) else ""


def word_place(words, index):
    """The place of the word with this index, counted from 1."""
    return 1 + sum([len(word) + 1 for word in words[:index]])


def fault_place(words, right):
    """The place of the first fault of a row, or None.

    The list `right` tells of each word that the row must have whether it is right.
    """
    for index, good in enumerate(right):
        if index == len(words):
            return len(" ".join(words)) + 1
        if not good:
            return word_place(words, index)
    if len(words) > len(right):
        return word_place(words, len(right))
    return None


def check_row(number, words, right):
    """Raise BadText for the first fault of the row with this number."""
    place = fault_place(words, right)
    if place is not None:
        raise BadText(number, place)


def home_right(words):
    """Which words of a home row are right."""
    return [words[0] == "home", is_name(word_at(words, 1))]


def house_right(words, houses):
    """Which words of a house row are right behind rows that gave these houses."""
    name = word_at(words, 1)
    return [len(houses) < MOST_HOUSES, is_name(name) and name not in houses]


def line_right(words, houses, lines):
    """Which words of a line row are right behind rows that gave these houses and lines."""
    name = word_at(words, 1)
    fresh = is_name(name) and name not in [line[0] for line in lines]
    first = words[0] == "line" and len(lines) < MOST_LINES
    return [first, fresh, word_at(words, 2) in houses, word_at(words, 3) in houses]


def read_net(text):
    """The net of a text. Raises BadText for the first fault."""
    rows = [row.split(" ") for row in text.split("\n")]
    check_row(1, rows[0], home_right(rows[0]))
    houses = [rows[0][1]]
    lines = []
    for number, words in enumerate(rows[1:], start=2):
        if words[0] == "house":
            check_row(number, words, house_right(words, houses))
            houses.append(words[1])
        else:
            check_row(number, words, line_right(words, houses, lines))
            lines.append((words[1], words[2], words[3]))
    return Net(houses[0], houses[1:], lines)


def write_net(net):
    """The text of a net: home, the other houses ascending, the lines ascending."""
    rows = [f"home {net.home}"]
    rows.extend([f"house {house}" for house in net.others])
    rows.extend([f"line {name} {tail} {head}" for name, tail, head in net])
    return "\n".join(rows)
