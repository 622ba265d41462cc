"""The checks of arguments that several files share. A check raises its error or does nothing."""

from markshome.errors import BadLot, BadName, Duplicate, OutOfRange, TooMany, UnknownHouse, UnknownLine
from markshome.names import MOST_LOT_HOUSES, MOST_TREES, is_name


def check_names(texts):
    """Raise BadName for the first text that is not a name."""
    for text in texts:
        if not is_name(text):
            raise BadName(text)


def is_number(value):
    """True if the value is an integer, which True and False are not."""
    return isinstance(value, int) and not isinstance(value, bool)


def check_range(what, value, least, most):
    """Raise OutOfRange for an integer that is less than the least or more than the most."""
    if not least <= value <= most:
        raise OutOfRange(what, value)


def check_count(count):
    """Raise OutOfRange for a number of trees, ways or lines outside 0 to 4."""
    check_range("count", count, 0, MOST_TREES)


def check_many(what, many, limit):
    """Raise TooMany if there are more things than the limit."""
    if many > limit:
        raise TooMany(what, many, limit)


def check_lot_houses(net):
    """Raise TooMany for a net that is too large to go through its lots."""
    check_many("houses", len(net.houses), MOST_LOT_HOUSES)


def check_repeats(texts):
    """Raise Duplicate for the first text that repeats an earlier one."""
    for place, text in enumerate(texts):
        if text in texts[:place]:
            raise Duplicate(text)


def check_houses(net, names):
    """Raise UnknownHouse for the first text that is no house."""
    for name in names:
        if not net.has_house(name):
            raise UnknownHouse(name)


def check_lines(net, names):
    """Raise UnknownLine for the first text that is no line."""
    for name in names:
        if name not in net:
            raise UnknownLine(name)


def check_not_home(net, house):
    """Raise BadLot if the house is home."""
    if house == net.home:
        raise BadLot(house)
