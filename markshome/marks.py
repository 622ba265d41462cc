"""Tables beside nets: what fits, the table of a grove, and the grove of a table."""

from markshome.errors import BadTable
from markshome.tables import Table
from markshome.trees import check_grove, is_grove, line_from


def entry_fits(net, entry):
    """True if the entry's house is a house but home, and its line leads from there."""
    house, _, line, _ = entry
    return house in net.others and line in net and net.tail(line) == house


def table_fault(net, table):
    """The house and mark of the first entry that does not fit the net, or None."""
    for entry in table:
        if not entry_fits(net, entry):
            return (entry[0], entry[1])
    return None


def check_fits(net, table):
    """Raise BadTable for the first entry that does not fit the net."""
    fault = table_fault(net, table)
    if fault is not None:
        raise BadTable(fault[0], fault[1])


def holes(net, table):
    """The pairs of a house but home and a mark that have no entry, ascending."""
    pairs = [(house, mark) for house in net.others for mark in range(table.marks)]
    return [pair for pair in pairs if pair not in table]


def differences(first, second):
    """The pairs of a house and a mark for which two tables do not have the same, ascending."""
    pairs = sorted(set([(house, mark) for house, mark, _, _ in first.entries + second.entries]))
    return [(house, mark) for house, mark in pairs if first.entry(house, mark) != second.entry(house, mark)]


def next_mark(marks, mark):
    """The mark behind this one, or None for the last one."""
    return mark + 1 if mark + 1 < marks else None


def table_of(net, grove):
    """The table of a grove."""
    check_grove(net, grove)
    marks = len(grove)
    return Table(marks, [(house, mark, line_from(net, tree, house), next_mark(marks, mark))
                         for mark, tree in enumerate(grove) for house in net.others])


def lines_of_mark(table, mark):
    """The lines in the entries of a mark, ascending."""
    return sorted([line for _, at, line, _ in table if at == mark])


def grove_of_table(net, table):
    """The grove whose table it is, or None."""
    grove = [lines_of_mark(table, mark) for mark in range(table.marks)]
    if not is_grove(net, grove) or table_of(net, grove) != table:
        return None
    return grove


def is_grove_table(net, table):
    """True if the value is the table of a grove of the net."""
    return isinstance(table, Table) and grove_of_table(net, table) is not None
