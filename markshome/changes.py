"""Changes of nets, groves and logs: lines put in and taken out, exchanges, swaps, logs led along."""

from markshome.buildlog import bad_place, is_weak
from markshome.builder import finished
from markshome.checks import check_count, check_houses, check_lines, check_many, check_not_home, check_range
from markshome.errors import Unlike
from markshome.flows import weakest_lot
from markshome.names import MOST_TREES
from markshome.nets import Net
from markshome.trees import check_grove, depth_sum, is_tree, line_from

MOST_TRIES = 20


def put_line(net, name, tail, head):
    """The net with one line more."""
    return Net(net.home, net.others, net.lines + [(name, tail, head)])


def take_line(net, line):
    """The net without the line."""
    return net - [line]


def tree_with(net, tree, new):
    """The lines of a right tree with the new line in the place of that with the same tail, ascending."""
    return sorted([line for line in tree if net.tail(line) != net.tail(new)] + [new])


def is_exchange(net, grove, index, new):
    """True if the tree of a right grove stays one with the new line, and no tree has that line."""
    if any([new in tree for tree in grove]):
        return False
    return is_tree(net, tree_with(net, grove[index], new))


def exchanged(net, grove, index, new):
    """The lists of a right grove with the new line in that tree."""
    trees = [list(tree) for tree in grove]
    trees[index] = tree_with(net, grove[index], new)
    return trees


def exchanges(net, grove):
    """All exchanges (index, old, new) of the grove, ascending."""
    check_grove(net, grove)
    found = [(index, new) for index in range(len(grove)) for new in net.line_names
             if is_exchange(net, grove, index, new)]
    return sorted([(index, line_from(net, grove[index], net.tail(new)), new) for index, new in found])


def exchange(net, grove, index, new):
    """The grove in which the tree with this index has the new line in the place of an old one."""
    check_range("index", index, 0, len(grove) - 1)
    check_many("trees", len(grove), MOST_TREES)
    check_lines(net, [new])
    check_grove(net, grove)
    if not is_exchange(net, grove, index, new):
        raise Unlike("exchange")
    return exchanged(net, grove, index, new)


def swapped(net, grove, first, second, house):
    """The lists of a right grove in which two trees have swapped their lines out of the house."""
    trees = [list(tree) for tree in grove]
    trees[first] = tree_with(net, grove[first], line_from(net, grove[second], house))
    trees[second] = tree_with(net, grove[second], line_from(net, grove[first], house))
    return trees


def is_swap(net, grove, first, second, house):
    """True if the first index is smaller and both lists of a right grove stay trees."""
    if first >= second:
        return False
    trees = swapped(net, grove, first, second, house)
    return is_tree(net, trees[first]) and is_tree(net, trees[second])


def swaps(net, grove):
    """All swaps (first, second, house) of the grove, ascending."""
    check_grove(net, grove)
    indexes = list(range(len(grove)))
    return [(first, second, house) for first in indexes for second in indexes for house in net.others
            if is_swap(net, grove, first, second, house)]


def swap(net, grove, first, second, house):
    """The grove in which the two trees have swapped their lines out of the house."""
    check_range("first", first, 0, len(grove) - 1)
    check_range("second", second, 0, len(grove) - 1)
    check_many("trees", len(grove), MOST_TREES)
    check_houses(net, [house])
    check_not_home(net, house)
    check_grove(net, grove)
    if not is_swap(net, grove, first, second, house):
        raise Unlike("swap")
    return swapped(net, grove, first, second, house)


def all_depths(net, grove):
    """The sum of the depths of all houses in all trees."""
    check_grove(net, grove)
    return sum([depth_sum(net, tree) for tree in grove])


def shorter(net, grove):
    """The grove after the first exchange or swap that makes the depths smaller, or None."""
    now = all_depths(net, grove)
    for index, _, new in exchanges(net, grove):
        trees = exchanged(net, grove, index, new)
        if all_depths(net, trees) < now:
            return trees
    for first, second, house in swaps(net, grove):
        trees = swapped(net, grove, first, second, house)
        if all_depths(net, trees) < now:
            return trees
    return None


def shorten(net, grove, tries):
    """The grove after at most so many changes that make the depths smaller, and the number of changes."""
    check_range("tries", tries, 0, MOST_TRIES)
    check_grove(net, grove)
    trees = [list(tree) for tree in grove]
    for made in range(tries):
        better = shorter(net, trees)
        if better is None:
            return (trees, made)
        trees = better
    return (trees, tries)


def right_start(net, count, log):
    """The number of entries of the longest beginning of the list that is a right log."""
    check_count(count)
    if is_weak(net, count):
        return 0
    place = bad_place(net, count, log)
    return len(log) if place is None else place


def lead_log(net, count, log):
    """A tuple of the finished log, the number of entries kept and None, or of None, 0 and the weakest lot."""
    check_count(count)
    if is_weak(net, count):
        return (None, 0, weakest_lot(net))
    kept = right_start(net, count, log)
    return (finished(net, count, log[:kept]), kept, None)
