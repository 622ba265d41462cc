"""Pairs of lines between two houses, one in each direction, that break together."""

from markshome.checks import check_lines, check_many, check_names, check_range, check_repeats
from markshome.errors import BadName, BadPair
from markshome.marks import check_fits
from markshome.names import MOST_HOUSES, MOST_LINES, MOST_TREES, ascending, is_name
from markshome.nets import Net
from markshome.stops import check_damages, selections, stop_among


def is_pair_of_texts(value):
    """True if the value is a tuple of two texts."""
    return isinstance(value, tuple) and len(value) == 2 and all([isinstance(text, str) for text in value])


def lead_back(net, first, second):
    """True if the two texts are lines of the net, each from the other's head to its tail."""
    if first not in net or second not in net:
        return False
    return net.tail(first) == net.head(second) and net.head(first) == net.tail(second)


def first_bad_pair(net, pairs):
    """The index of the first tuple that breaks a rule of pairings, given the tuples before it, or None."""
    for index, (first, second) in enumerate(pairs):
        before = pairs[:index]
        used = [line for pair in before for line in pair]
        if first >= second or not lead_back(net, first, second) or first in used or second in used:
            return index
        if before and before[-1] >= (first, second):
            return index
    return None


def is_pairing(net, pairs):
    """True if the value is a pairing of lines of the net."""
    if not isinstance(pairs, list) or not all([is_pair_of_texts(pair) for pair in pairs]):
        return False
    return first_bad_pair(net, pairs) is None


def check_pairs(net, pairs):
    """Raise BadPair for the first tuple that breaks a rule of pairings."""
    index = first_bad_pair(net, pairs)
    if index is not None:
        raise BadPair(pairs[index][0], pairs[index][1])


def check_edges(home, houses, edges):
    """Raise the first error of the parts of a two-way net, but for houses that are not known."""
    check_names([home, *houses])
    for name, one, other in edges:
        # One sign more must fit, for the names of the two lines.
        if not is_name(name) or not is_name(name + "f"):
            raise BadName(name)
        check_names([one, other])
    check_many("houses", len(houses) + 1, MOST_HOUSES)
    check_many("lines", 2 * len(edges), MOST_LINES)
    check_repeats([home, *houses])
    check_repeats([edge[0] for edge in edges])


def two_way_net(home, houses, edges):
    """The net with two lines for each edge, and their pairing."""
    check_edges(home, houses, edges)
    lines = [line for name, one, other in edges for line in [(name + "f", one, other), (name + "b", other, one)]]
    return (Net(home, houses, lines), sorted([(name + "b", name + "f") for name, _, _ in edges]))


def with_partners(net, pairs, broken):
    """The damage of the broken lines and of all lines that are paired with them."""
    check_lines(net, broken)
    check_pairs(net, pairs)
    hit = [pair for pair in pairs if pair[0] in broken or pair[1] in broken]
    return ascending(broken + [line for pair in hit for line in pair])


def pair_limit(count):
    """The number of broken pairs that the table of so many trees surely bears."""
    check_range("count", count, 1, MOST_TREES)
    return (count - 1) // 2


def damage_of(pairs):
    """The damage of all lines of the pairs."""
    return sorted([line for pair in pairs for line in pair])


def all_pair_damages(net, pairs, most):
    """The damage of every selection of at most `most` pairs: fewer pairs first, then ascending."""
    check_damages(len(pairs), most)
    check_pairs(net, pairs)
    return [damage_of(chosen) for chosen in selections(pairs, most)]


def first_pair_stop(net, table, pairs, most):
    """The first of these damages that makes a stop, with the first house, or None."""
    damages = all_pair_damages(net, pairs, most)
    check_fits(net, table)
    return stop_among(net, table, damages)
