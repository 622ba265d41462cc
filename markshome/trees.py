"""Trees that lead home, and groves: lists of trees without a common line."""

from markshome.checks import check_houses, check_many
from markshome.errors import BadTree
from markshome.names import MOST_TREES, ascending


def leads_home(net, ahead, house):
    """True if the dict from houses to their next houses leads from the house home."""
    for _ in net.others:
        house = ahead.get(house, house)
    return house == net.home


def is_tree(net, tree):
    """True if the value is a tree of the net."""
    if not isinstance(tree, list) or not all([isinstance(line, str) and line in net for line in tree]):
        return False
    if tree != ascending(tree) or sorted([net.tail(line) for line in tree]) != net.others:
        return False
    ahead = {net.tail(line): net.head(line) for line in tree}
    return all([leads_home(net, ahead, house) for house in net.others])


def first_bad_tree(net, grove):
    """The index of the first list that is no tree or has a line of an earlier list, or None."""
    for index, tree in enumerate(grove):
        if not is_tree(net, tree):
            return index
        taken = [line for earlier in grove[:index] for line in earlier]
        if any([line in taken for line in tree]):
            return index
    return None


def is_grove(net, grove):
    """True if the value is a list of trees, no two of which have a line in common."""
    return isinstance(grove, list) and first_bad_tree(net, grove) is None


def check_tree(net, tree):
    """Raise BadTree for a list that is no tree."""
    if not is_tree(net, tree):
        raise BadTree(0)


def check_grove(net, grove):
    """Raise TooMany for a list of too many trees, then BadTree for the first list that makes it no grove."""
    check_many("trees", len(grove), MOST_TREES)
    index = first_bad_tree(net, grove)
    if index is not None:
        raise BadTree(index)


def line_from(net, tree, house):
    """The line of a right tree out of the house, or None for home."""
    for line in tree:
        if net.tail(line) == house:
            return line
    return None


def way_from(net, tree, house):
    """The lines of a right tree that lead from the house home, in order."""
    way = []
    while house != net.home:
        line = line_from(net, tree, house)
        way.append(line)
        house = net.head(line)
    return way


def tree_line(net, tree, house):
    """The tree's line out of the house, or None for home."""
    check_houses(net, [house])
    check_tree(net, tree)
    return line_from(net, tree, house)


def tree_way(net, tree, house):
    """The tree's lines that lead from the house home, in order."""
    check_houses(net, [house])
    check_tree(net, tree)
    return way_from(net, tree, house)


def depths(net, tree):
    """A dict from every house to the number of lines of its tree way."""
    check_tree(net, tree)
    return {house: len(way_from(net, tree, house)) for house in net.houses}


def depth_sum(net, tree):
    """The sum of the depths of all houses."""
    return sum(list(depths(net, tree).values()))


def below(net, tree, house):
    """The houses whose tree way begins at the house or enters it, ascending."""
    check_houses(net, [house])
    check_tree(net, tree)
    found = []
    for start in net.houses:
        entered = [net.head(line) for line in way_from(net, tree, start)]
        if start == house or house in entered:
            found.append(start)
    return found
