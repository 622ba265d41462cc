"""All trees and all groves of a net, and the number of its trees."""

from itertools import combinations
from math import comb

from markshome.checks import check_count, check_many
from markshome.names import MOST_CHOICES
from markshome.nets import between
from markshome.trees import is_grove, is_tree


def check_choices(net):
    """Raise TooMany if there are too many choices of one line out of each house."""
    number = 1
    for house in net.others:
        number = number * len(net.out(house))
    check_many("choices", number, MOST_CHOICES)


def choices(net):
    """Every choice of one line out of each house, each one ascending."""
    starts = [net.out(house) for house in net.others]
    # With a house without lines there is no choice, however many there are for the houses before it.
    if [] in starts:
        return []
    found = [[]]
    for lines in starts:
        found = [chosen + [line] for chosen in found for line in lines]
    return [sorted(chosen) for chosen in found]


def all_trees(net):
    """Every tree of the net, ascending."""
    check_choices(net)
    return sorted([chosen for chosen in choices(net) if is_tree(net, chosen)])


def determinant(rows):
    """The determinant of the rows that count the trees, in whole numbers.

    In each of these rows the number on the diagonal is at least as great as
    all others together without their signs. This stays so at every step.
    """
    divisor = 1
    while rows:
        top = rows[0]
        # Then all numbers of this row are 0, so no other row is tried in its place.
        if top[0] == 0:
            return 0
        # Each of these divisions by the first number of the step before is exact.
        rows = [[(top[0] * row[k] - row[0] * top[k]) // divisor for k in range(1, len(row))] for row in rows[1:]]
        divisor = top[0]
    return divisor


def count_entry(net, row, column):
    """The number at this row and column of the determinant that counts the trees."""
    if row == column:
        return len(net.out(row)) - len(between(net, row, row))
    return -len(between(net, row, column))


def count_trees(net):
    """The number of trees of the net."""
    names = net.others
    return determinant([[count_entry(net, row, column) for column in names] for row in names])


def all_groves(net, count):
    """Every grove of so many trees in which the trees are ascending; the groves are ascending, too."""
    check_count(count)
    trees = all_trees(net)
    check_many("groves", comb(len(trees), count), MOST_CHOICES)
    if net.others == []:
        return [[[] for _ in range(count)]]
    chosen = [list(grove) for grove in combinations(trees, count)]
    return [[list(tree) for tree in grove] for grove in chosen if is_grove(net, grove)]
