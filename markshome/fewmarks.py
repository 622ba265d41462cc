"""How many marks are needed, nets with an order, and rows: lists of lines in the place of marks."""

from itertools import permutations
from math import factorial

from markshome.buildlog import is_weak
from markshome.checks import check_houses, check_lines, check_many, check_range
from markshome.errors import Unlike
from markshome.lots import left_over
from markshome.names import MOST_CHOICES, MOST_LINES, MOST_TREES
from markshome.nets import Net
from markshome.stops import all_damages, selection_count, selections


def least_marks(net, breaks):
    """The least number of marks of a table that bears so many broken lines, or None if no table does."""
    check_range("breaks", breaks, 0, MOST_TREES - 1)
    if net.others == []:
        return 0
    return None if is_weak(net, breaks + 1) else breaks + 1


def leads_into(net, house, places):
    """True if every line out of the house leads to one of the places."""
    return all([net.head(line) in places for line in net.out(house)])


def is_order(net, order):
    """True if the value is an order of the net."""
    if not isinstance(order, list) or len(order) != len(net.others):
        return False
    if not all([house in order for house in net.others]):
        return False
    return all([leads_into(net, house, [net.home] + order[:place]) for place, house in enumerate(order)])


def is_ring(net, ring):
    """True if the value is a ring of the net."""
    if not isinstance(ring, list) or ring == []:
        return False
    if not all([isinstance(line, str) and line in net for line in ring]):
        return False
    tails = [net.tail(line) for line in ring]
    if [net.head(line) for line in ring] != tails[1:] + tails[:1]:
        return False
    return net.home not in tails and len(tails) == len(set(tails))


def ring_among(net, houses):
    """A ring of lines between the houses. Each of them must have a line to one of them."""
    met = [houses[0]]
    lines = []
    while met[-1] not in met[:-1]:
        inner = [line for line in net.out(met[-1]) if net.head(line) in houses]
        lines.append(inner[0])
        met.append(net.head(inner[0]))
    # The lines ahead of the first visit lead to the ring and are no part of it.
    return lines[met.index(met[-1]):]


def order_or_ring(net):
    """The tuple ("order", order) or ("ring", ring) of the net."""
    order = []
    left = net.others
    while left:
        ready = [house for house in left if leads_into(net, house, [net.home] + order)]
        if ready == []:
            return ("ring", ring_among(net, left))
        order = order + ready
        left = left_over(left, ready)
    return ("order", order)


def are_different_lines(value, lines):
    """True if the value is a list of some of the lines, none of them twice."""
    if not isinstance(value, list) or not all([line in lines for line in value]):
        return False
    return len(value) == len(set(value))


def is_rows(net, rows):
    """True if the value is a dict with a list of different lines out of each house but home."""
    if not isinstance(rows, dict) or len(rows) != len(net.others):
        return False
    if not all([house in rows for house in net.others]):
        return False
    return all([are_different_lines(rows[house], net.out(house)) for house in net.others])


def check_rows(net, rows):
    """Raise Unlike for a dict that is no rows of the net."""
    if not is_rows(net, rows):
        raise Unlike("rows")


def full_rows(net):
    """The rows with all lines out of each house, ascending."""
    return {house: net.out(house) for house in net.others}


def passed(net, rows, start, broken):
    """The end of a letter by right rows, and the lines that it passes."""
    lines = []
    met = [start]
    while met[-1] != net.home:
        whole = [line for line in rows[met[-1]] if line not in broken]
        if whole == []:
            return ("stuck", lines)
        lines.append(whole[0])
        if net.head(whole[0]) in met:
            return ("round", lines)
        met.append(net.head(whole[0]))
    return ("home", lines)


def row_run(net, rows, start, *, broken=()):
    """A tuple of the end of a letter that passes the first whole line of each list, and of its lines."""
    check_houses(net, [start])
    check_lines(net, broken)
    check_rows(net, rows)
    return passed(net, rows, start, broken)


def rows_stop_among(net, rows, damages):
    """The first damage that stops right rows, with the first house, or None."""
    for damage in damages:
        houses = [house for house in net.others if passed(net, rows, house, damage)[0] != "home"]
        if houses:
            return (damage, houses[0])
    return None


def rows_stop(net, rows, most):
    """The first damage of at most `most` lines that stops the rows, with the first house, or None."""
    damages = all_damages(net, most)
    check_rows(net, rows)
    return rows_stop_among(net, rows, damages)


def check_tries(net, most):
    """Raise the first error of a search through all arrangements of the lines and all damages."""
    check_range("most", most, 0, MOST_LINES)
    tries = selection_count(len(net.line_names), most)
    for house in net.others:
        tries = tries * factorial(len(net.out(house)))
    check_many("tries", tries, MOST_CHOICES)


def arranged_rows(net):
    """All rows in which every list is an arrangement of all lines out of the house, in their order."""
    found = [{}]
    for house in net.others:
        lines = net.out(house)
        found = [{**rows, house: list(chosen)} for rows in found for chosen in permutations(lines)]
    return found


def find_rows(net, most):
    """The first rows of all arrangements that no damage of at most `most` lines stops, or None."""
    check_tries(net, most)
    damages = selections(net.line_names, most)
    for rows in arranged_rows(net):
        if rows_stop_among(net, rows, damages) is None:
            return rows
    return None


def fork_net():
    """A net that bears one broken line with two marks, but by no rows."""
    return Net("h", ["a", "b", "c"], [("ah", "a", "h"), ("ac", "a", "c"), ("bh", "b", "h"), ("bc", "b", "c"),
                                      ("ca", "c", "a"), ("cb", "c", "b")])
