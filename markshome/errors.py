"""The errors of the program. Each one keeps its fields as attributes."""


class HomeError(ValueError):
    """Stands above every error of the program and is never raised itself."""


class BadName(HomeError):
    """A text that must be a name is none."""

    def __init__(self, name):
        self.name = name


class OutOfRange(HomeError):
    """An integer is outside its range."""

    def __init__(self, what, value):
        self.what = what
        self.value = value


class TooMany(HomeError):
    """More things than are accepted."""

    def __init__(self, what, count, limit):
        self.what = what
        self.count = count
        self.limit = limit


class Duplicate(HomeError):
    """A text stands twice where it may stand once."""

    def __init__(self, name):
        self.name = name


class UnknownHouse(HomeError):
    """A text that must be a house of the net is none."""

    def __init__(self, name):
        self.name = name


class UnknownLine(HomeError):
    """A text that must be a line of the net is none."""

    def __init__(self, name):
        self.name = name


class BadLot(HomeError):
    """A lot is empty (the name is None), or home stands where it must not."""

    def __init__(self, name):
        self.name = name


class BadPair(HomeError):
    """A tuple breaks a rule of pairings."""

    def __init__(self, first, second):
        self.first = first
        self.second = second


class Weak(HomeError):
    """The strength of the net is less than the count."""

    def __init__(self, strength, count):
        self.strength = strength
        self.count = count


class BadTree(HomeError):
    """The list with this index is no tree, or no tree beside those before it."""

    def __init__(self, index):
        self.index = index


class BadLog(HomeError):
    """The entry at this place of a log is not right."""

    def __init__(self, place):
        self.place = place


class BadTable(HomeError):
    """The entry of this house and mark is not right."""

    def __init__(self, house, mark):
        self.house = house
        self.mark = mark


class Unlike(HomeError):
    """An argument does not have the form that it must have."""

    def __init__(self, what):
        self.what = what


class BadText(HomeError):
    """A text that is read has its first fault at this row and place."""

    def __init__(self, row, place):
        self.row = row
        self.place = place
