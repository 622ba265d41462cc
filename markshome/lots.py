"""Lots: sets of houses without home, and the lines out of them."""

from itertools import combinations

from markshome.checks import check_count, check_houses, check_lot_houses, check_not_home, check_repeats
from markshome.errors import BadLot
from markshome.names import ascending


def is_lot(net, value):
    """True if the value is a lot in its one form, ascending."""
    if not isinstance(value, list) or value == []:
        return False
    if not all([house in net.others for house in value]):
        return False
    return value == ascending(value)


def check_lots(net, lots):
    """Raise the first error of several lots, by the order of the classes."""
    for lot in lots:
        check_repeats(lot)
    for lot in lots:
        check_houses(net, lot)
    for lot in lots:
        if lot == []:
            raise BadLot(None)
        if net.home in lot:
            raise BadLot(net.home)


def lot_of(net, lot):
    """The lot in its one form."""
    check_lots(net, [lot])
    return ascending(lot)


def lines_between(net, tails, heads):
    """The lines from the one list of houses to the other, ascending."""
    return [name for name, tail, head in net if tail in tails and head in heads]


def lines_out(net, lot):
    """The lines out of the lot, ascending."""
    check_lots(net, [lot])
    return lines_between(net, lot, left_over(net.houses, lot))


def lines_into(net, lot):
    """The lines into the lot, ascending."""
    check_lots(net, [lot])
    return lines_between(net, left_over(net.houses, lot), lot)


def left_over(first, second):
    """The texts of the first list that are not in the second."""
    return [name for name in first if name not in second]


def common_part(first, second):
    """The texts in both lists, ascending."""
    return ascending([name for name in first if name in second])


def joined(first, second):
    """The texts in at least one of the lists, ascending."""
    return ascending(first + second)


def crossing(net, first, second):
    """The numbers of lines out of both lots, of their common part and join, and between their other houses."""
    check_lots(net, [first, second])
    both = common_part(first, second)
    inner = len(lines_out(net, both)) if both else 0
    only_first = left_over(first, second)
    only_second = left_over(second, first)
    across = lines_between(net, only_first, only_second) + lines_between(net, only_second, only_first)
    outer = len(lines_out(net, joined(first, second)))
    return (len(lines_out(net, first)), len(lines_out(net, second)), inner, outer, len(across))


def lots_among(names):
    """Every lot of these houses, which are ascending: fewer houses first, then ascending."""
    return [list(lot) for size in range(1, len(names) + 1) for lot in combinations(names, size)]


def all_lots(net):
    """Every lot: fewer houses first, then ascending."""
    check_lot_houses(net)
    return lots_among(net.others)


def plain_strength(net):
    """The least number of lines out of a lot, found by going through all of them."""
    return min([len(lines_out(net, lot)) for lot in all_lots(net)], default=None)


def least_lots(net, house):
    """All lots with the house whose number of lines out is the least among those."""
    check_lot_houses(net)
    check_houses(net, [house])
    check_not_home(net, house)
    lots = [lot for lot in all_lots(net) if house in lot]
    least = min([len(lines_out(net, lot)) for lot in lots])
    return [lot for lot in lots if len(lines_out(net, lot)) == least]


def weak_lots(net, count):
    """All lots with fewer lines out than the count."""
    check_count(count)
    return [lot for lot in all_lots(net) if len(lines_out(net, lot)) < count]
