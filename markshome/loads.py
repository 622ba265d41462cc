"""How much longer a letter's way gets behind broken lines, and how often each line is used."""

from markshome.checks import check_houses, check_lines
from markshome.marks import check_fits
from markshome.runs import carried
from markshome.stops import all_damages
from markshome.trees import below, check_tree


def steps_home(net, table, house, broken):
    """The steps of the run with mark 0 from the house, or None if it does not come home."""
    run = carried(net, table, house, 0, [broken])
    return run.steps if run.end == "home" else None


def longer_by(steps, calm):
    """The difference of two numbers of steps, or None if one of them is None."""
    return None if steps is None or calm is None else steps - calm


def detour(net, table, house, *, broken=()):
    """How many steps more the run from the house has with the broken lines, or None."""
    check_houses(net, [house])
    check_lines(net, broken)
    check_fits(net, table)
    return longer_by(steps_home(net, table, house, broken), steps_home(net, table, house, []))


def worst_detour(net, table, most):
    """The tuple (detour, damage, house) of the first of the greatest detours, or None."""
    damages = all_damages(net, most)
    check_fits(net, table)
    calm = {house: steps_home(net, table, house, []) for house in net.others}
    best = None
    for damage in damages:
        for house in net.others:
            longer = longer_by(steps_home(net, table, house, damage), calm[house])
            if longer is not None and (best is None or longer > best[0]):
                best = (longer, damage, house)
    return best


def loads(net, table, starts, *, broken=()):
    """The tuples (line, number) that say how often the letters from the starts pass each line."""
    check_houses(net, starts)
    check_lines(net, broken)
    check_fits(net, table)
    runs = [carried(net, table, start, 0, [broken]) for start in starts]
    used = [move[1] for run in runs for move in run.moves if move[0] == "pass"]
    return [(line, used.count(line)) for line in net.line_names]


def busiest(net, table, starts, *, broken=()):
    """The tuple (line, number) of the first line that is passed most often, or None if there are no lines."""
    best = None
    for row in loads(net, table, starts, broken=broken):
        if best is None or row[1] > best[1]:
            best = row
    return best


def tree_loads(net, tree, starts):
    """The tuples (line, number) for letters from the starts that follow the tree with nothing broken."""
    check_houses(net, starts)
    check_tree(net, tree)
    found = {line: 0 for line in net.line_names}
    for line in tree:
        houses = below(net, tree, net.tail(line))
        found[line] = len([start for start in starts if start in houses])
    return [(line, found[line]) for line in net.line_names]
