"""Hanging a second net at a house of the first, with its groves and tables."""

from markshome.checks import check_houses, check_many, check_repeats
from markshome.errors import BadTable, Unlike
from markshome.names import MOST_HOUSES, MOST_LINES, MOST_TREES, ascending
from markshome.nets import Net
from markshome.tables import MOST_ENTRIES, Table
from markshome.trees import check_grove


def hung_at(house, part, name):
    """The house in the place of the part's home, and every other house of the part as it is."""
    return house if name == part.home else name


def hang(net, house, part):
    """The net with the part, whose home becomes the house."""
    check_many("houses", len(net.houses) + len(part.others), MOST_HOUSES)
    check_many("lines", len(net.line_names) + len(part.line_names), MOST_LINES)
    check_repeats(net.houses + part.others)
    check_repeats(net.line_names + part.line_names)
    check_houses(net, [house])
    lines = [(name, hung_at(house, part, tail), hung_at(house, part, head)) for name, tail, head in part]
    return Net(net.home, net.others + part.others, net.lines + lines)


def hang_grove(net, grove, part, part_grove):
    """The grove of the hung net, in which each tree has the lines of both trees with its index."""
    check_many("trees", len(grove), MOST_TREES)
    check_many("trees", len(part_grove), MOST_TREES)
    check_repeats(net.line_names + part.line_names)
    check_grove(net, grove)
    check_grove(part, part_grove)
    if len(grove) != len(part_grove):
        raise Unlike("count")
    return [sorted(tree + part_tree) for tree, part_tree in zip(grove, part_grove)]


def restrict(net, grove):
    """For each list, the list of those of its texts that are lines of the net, ascending, each once."""
    check_many("trees", len(grove), MOST_TREES)
    return [ascending([line for line in tree if line in net]) for tree in grove]


def hang_tables(table, part_table):
    """The table with the entries of both."""
    check_many("entries", len(table.entries) + len(part_table.entries), MOST_ENTRIES)
    for house, mark, _, _ in part_table:
        if (house, mark) in table:
            raise BadTable(house, mark)
    if table.marks != part_table.marks:
        raise Unlike("marks")
    return Table(table.marks, table.entries + part_table.entries)
