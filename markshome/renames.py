"""Renamings of the houses and lines of a net, and of what stands beside it."""

from itertools import permutations

from markshome.checks import check_houses, check_lines, check_many
from markshome.errors import Unlike
from markshome.marks import check_fits
from markshome.names import is_name
from markshome.nets import Net, between
from markshome.runs import Run
from markshome.tables import Table
from markshome.trees import check_grove

MOST_FOUND_HOUSES = 6


def is_naming(names, value):
    """True if the value is a dict from exactly these names to as many different names."""
    if not isinstance(value, dict) or len(value) != len(names):
        return False
    new = list(value.values())
    if not all([name in value for name in names]) or not all([is_name(name) for name in new]):
        return False
    return len(new) == len(set(new))


def is_renaming(net, renaming):
    """True if the value is a tuple of new names for all houses and for all lines."""
    if not isinstance(renaming, tuple) or len(renaming) != 2:
        return False
    return is_naming(net.houses, renaming[0]) and is_naming(net.line_names, renaming[1])


def check_renaming(net, renaming):
    """Raise Unlike for a tuple that is no renaming of the net."""
    if not is_renaming(net, renaming):
        raise Unlike("renaming")


def rename_net(net, renaming):
    """The net with the new names."""
    check_renaming(net, renaming)
    houses, lines = renaming
    return Net(houses[net.home], [houses[house] for house in net.others],
               [(lines[name], houses[tail], houses[head]) for name, tail, head in net])


def rename_lines(net, names, renaming):
    """The new names of the lines, in the same order and with repeats."""
    check_lines(net, names)
    check_renaming(net, renaming)
    return [renaming[1][name] for name in names]


def rename_grove(net, grove, renaming):
    """The grove with the new names, every tree ascending by these."""
    check_grove(net, grove)
    check_renaming(net, renaming)
    return [sorted([renaming[1][line] for line in tree]) for tree in grove]


def renamed_table(table, renaming):
    """The table with the new names, by a right renaming of a net that it fits."""
    houses, lines = renaming
    return Table(table.marks, [(houses[house], mark, lines[line], after) for house, mark, line, after in table])


def rename_table(net, table, renaming):
    """The table with the new names."""
    check_fits(net, table)
    check_renaming(net, renaming)
    return renamed_table(table, renaming)


def renamed_move(move, renaming):
    """The move with the new names. A line None stays."""
    kind, line, house, mark = move
    return (kind, None if line is None else renaming[1][line], renaming[0][house], mark)


def rename_run(net, run, renaming):
    """The run with the new names."""
    check_houses(net, [run.start] + [move[2] for move in run.moves])
    check_lines(net, [move[1] for move in run.moves if move[1] is not None])
    check_renaming(net, renaming)
    return Run(renaming[0][run.start], run.mark, run.end, [renamed_move(move, renaming) for move in run.moves])


def turned(net, renaming):
    """The renaming of the renamed net that leads back."""
    check_renaming(net, renaming)
    houses, lines = renaming
    return ({houses[house]: house for house in houses}, {lines[line]: line for line in lines})


def chained(net, first, second):
    """The renaming of the net that has the effect of the first and then the second one."""
    renamed = rename_net(net, first)
    if not is_renaming(renamed, second):
        raise Unlike("second")
    return ({house: second[0][first[0][house]] for house in first[0]},
            {line: second[1][first[1][line]] for line in first[1]})


def line_naming(first, second, houses):
    """The new names of the lines that belong to the new names of the houses, or None if there are none."""
    lines = {}
    for tail in first.houses:
        for head in first.houses:
            old = between(first, tail, head)
            new = between(second, houses[tail], houses[head])
            if len(old) != len(new):
                return None
            for index, line in enumerate(old):
                lines[line] = new[index]
    return lines


def find_renaming(first, second):
    """A renaming that makes the first net equal to the second, or None."""
    check_many("houses", len(first.houses), MOST_FOUND_HOUSES)
    check_many("houses", len(second.houses), MOST_FOUND_HOUSES)
    if len(first.houses) != len(second.houses):
        return None
    names = second.others
    for order in permutations(names):
        houses = dict(zip([first.home] + first.others, [second.home] + list(order)))
        lines = line_naming(first, second, houses)
        if lines is not None:
            return (houses, lines)
    return None


def alike(net, first, second, renaming):
    """True if the renaming makes the first table, which must fit the net, equal to the second."""
    check_fits(net, first)
    check_renaming(net, renaming)
    return renamed_table(first, renaming) == second
