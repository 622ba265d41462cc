"""How many lines must be put in so that so many trees exist, and from which houses."""

from markshome.checks import check_count, is_number
from markshome.lots import common_part, is_lot, joined, lines_out, lots_among
from markshome.names import ascending
from markshome.nets import Net


def shortfall(net, count, lot):
    """The count minus the number of lines out of the lot."""
    return count - len(lines_out(net, lot))


def given(numbers, lot):
    """The number of new lines from the houses of the lot, by a dict from houses to numbers."""
    return sum([numbers.get(house, 0) for house in lot])


def put_beside(lots, lot):
    """The lots, no two of which share a house, with one more, which is joined with those that share one with it."""
    apart = []
    for other in lots:
        if common_part(lot, other):
            lot = joined(lot, other)
        else:
            apart.append(other)
    return apart + [lot]


def wants(net, count):
    """A tuple of the new lines that are wanted, as tuples (house, number), and of lots that need as many."""
    check_count(count)
    numbers = {}
    lots = []
    for place, house in enumerate(net.others):
        # A lot with a later house has enough new lines from there.
        asking = [lot + [house] for lot in [[]] + lots_among(net.others[:place])]
        missing = [shortfall(net, count, lot) - given(numbers, lot) for lot in asking]
        number = max(missing)
        if number > 0:
            numbers[house] = number
            # This lot now has just enough. Joined with another such lot that shares a house, it still has.
            lots = put_beside(lots, asking[missing.index(number)])
    return (list(numbers.items()), lots)


def is_want(net, value):
    """True if the value is a tuple of a house but home and a number greater than 0."""
    if not isinstance(value, tuple) or len(value) != 2:
        return False
    return value[0] in net.others and is_number(value[1]) and value[1] > 0


def are_wants(net, value):
    """True if the value is a list of such tuples, ascending by house."""
    if not isinstance(value, list) or not all([is_want(net, want) for want in value]):
        return False
    houses = [house for house, _ in value]
    return houses == ascending(houses)


def are_apart(net, value):
    """True if the value is a list of lots, no two of which share a house."""
    if not isinstance(value, list) or not all([is_lot(net, lot) for lot in value]):
        return False
    houses = [house for lot in value for house in lot]
    return len(houses) == len(set(houses))


def is_wants(net, count, paper):
    """True if the value is a right tuple of wants and lots."""
    check_count(count)
    if not isinstance(paper, tuple) or len(paper) != 2:
        return False
    wanted, lots = paper
    if not are_wants(net, wanted) or not are_apart(net, lots):
        return False
    numbers = dict(wanted)
    if sum([number for _, number in wanted]) != sum([shortfall(net, count, lot) for lot in lots]):
        return False
    return all([given(numbers, lot) >= shortfall(net, count, lot) for lot in lots_among(net.others)])


def fresh_names(net, many):
    """The first so many of the names z1, z2, z3 and so on that are no lines of the net."""
    names = []
    number = 1
    while len(names) < many:
        if f"z{number}" not in net:
            names.append(f"z{number}")
        number = number + 1
    return names


def strengthen(net, count):
    """The net with the new lines that are wanted for so many trees. Raises TooMany if it has no room for them."""
    wanted, _ = wants(net, count)
    tails = [house for house, number in wanted for _ in range(number)]
    new = [(name, tail, net.home) for name, tail in zip(fresh_names(net, len(tails)), tails)]
    return Net(net.home, net.others, net.lines + new)
