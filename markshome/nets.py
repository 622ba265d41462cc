"""The net: home, the other houses, and the lines between them."""

from markshome.checks import check_houses, check_lines, check_many, check_names, check_repeats
from markshome.errors import UnknownHouse, UnknownLine
from markshome.names import MOST_HOUSES, MOST_LINES


def check_net(home, houses, lines):
    """Raise the first error of the parts of a net."""
    check_names([home, *houses])
    check_names([text for line in lines for text in line])
    check_many("houses", len(houses) + 1, MOST_HOUSES)
    check_many("lines", len(lines), MOST_LINES)
    check_repeats([home, *houses])
    check_repeats([line[0] for line in lines])
    known = [home, *houses]
    for end in [house for line in lines for house in line[1:]]:
        if end not in known:
            raise UnknownHouse(end)


class Net:
    """A net with home, other houses and one-way lines. It never changes."""

    def __init__(self, home, houses=(), lines=()):
        check_net(home, houses, lines)
        self.home = home
        self._houses = sorted([home, *houses])
        self._lines = sorted(lines)
        self._ends = {name: (tail, head) for name, tail, head in lines}
        self._out = {house: [row[0] for row in self._lines if row[1] == house] for house in self._houses}
        self._into = {house: [row[0] for row in self._lines if row[2] == house] for house in self._houses}

    @property
    def houses(self):
        """All houses, ascending."""
        return list(self._houses)

    @property
    def others(self):
        """The houses but home, ascending."""
        return [house for house in self._houses if house != self.home]

    @property
    def lines(self):
        """The lines as tuples (name, tail, head), ascending."""
        return list(self._lines)

    @property
    def line_names(self):
        """The names of the lines, ascending."""
        return [row[0] for row in self._lines]

    def tail(self, line):
        """The house that the line leads from."""
        if line not in self._ends:
            raise UnknownLine(line)
        return self._ends[line][0]

    def head(self, line):
        """The house that the line leads to."""
        if line not in self._ends:
            raise UnknownLine(line)
        return self._ends[line][1]

    def out(self, house):
        """The names of the lines with this tail, ascending."""
        if house not in self._out:
            raise UnknownHouse(house)
        return list(self._out[house])

    def into(self, house):
        """The names of the lines with this head, ascending."""
        if house not in self._into:
            raise UnknownHouse(house)
        return list(self._into[house])

    def has_house(self, name):
        """True if the text is a house."""
        return name in self._houses

    def __eq__(self, other):
        return (isinstance(other, Net) and self.home == other.home
                and self._houses == other._houses and self._lines == other._lines)

    def __sub__(self, names):
        check_lines(self, names)
        return Net(self.home, self.others, [row for row in self._lines if row[0] not in names])

    def __contains__(self, name):
        return name in self._ends

    def __iter__(self):
        return iter(self._lines)


def between(net, tail, head):
    """The names of the lines from the one house to the other, ascending."""
    check_houses(net, [tail, head])
    return [line for line in net.out(tail) if net.head(line) == head]
