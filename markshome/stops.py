"""Damages, and the stops: damages that keep a letter from coming home."""

from itertools import combinations
from math import comb

from markshome.checks import check_houses, check_lines, check_many, check_not_home, check_range
from markshome.errors import Unlike
from markshome.flows import weakest_lot
from markshome.lots import lines_out
from markshome.marks import check_fits
from markshome.names import MOST_DAMAGES, MOST_LINES, ascending
from markshome.runs import carried, lost_houses
from markshome.ways import cut_off


def selection_count(many, most):
    """The number of selections of at most `most` of so many things."""
    return sum([comb(many, size) for size in range(most + 1)])


def check_damages(many, most):
    """Raise the first error of a search through all selections of at most `most` of so many things."""
    check_range("most", most, 0, MOST_LINES)
    check_many("damages", selection_count(many, most), MOST_DAMAGES)


def selections(things, most):
    """All selections of at most `most` of the things: fewer things first, then in the order of the things."""
    return [list(chosen) for size in range(most + 1) for chosen in combinations(things, size)]


def all_damages(net, most):
    """Every damage of at most `most` lines: fewer lines first, then ascending."""
    check_damages(len(net.line_names), most)
    return selections(net.line_names, most)


def stop_among(net, table, damages):
    """The stop with the first of the damages that makes one, and with the first house, or None."""
    for damage in damages:
        houses = lost_houses(net, table, damage)
        if houses:
            return (damage, houses[0])
    return None


def first_stop(net, table, most):
    """The first stop with at most `most` lines, or None."""
    damages = all_damages(net, most)
    check_fits(net, table)
    return stop_among(net, table, damages)


def holds(net, table, most):
    """True if no damage of at most `most` lines stops the table."""
    return first_stop(net, table, most) is None


def fewest_stop(net, table, most):
    """The number of lines of the first stop with at most `most` lines, or None."""
    stop = first_stop(net, table, most)
    return None if stop is None else len(stop[0])


def is_damage(net, value):
    """True if the value is a damage of the net."""
    if not isinstance(value, list) or not all([isinstance(line, str) and line in net for line in value]):
        return False
    return value == ascending(value)


def has_stop_form(net, paper):
    """True if the value is a tuple of a damage and a house that is not home."""
    if not isinstance(paper, tuple) or len(paper) != 2:
        return False
    return is_damage(net, paper[0]) and paper[1] in net.others


def is_stop(net, table, paper):
    """True if the value is a stop of the table."""
    check_fits(net, table)
    return has_stop_form(net, paper) and paper[1] in lost_houses(net, table, paper[0])


def starving(net, table, house):
    """The damage of all lines in the entries of the house."""
    check_houses(net, [house])
    check_not_home(net, house)
    check_fits(net, table)
    return ascending([line for at, _, line, _ in table if at == house])


def longest(net, table, most):
    """The tuple (moves, damage, house) of the first of the longest runs that come home, or None."""
    damages = all_damages(net, most)
    check_fits(net, table)
    best = None
    for damage in damages:
        for house in net.others:
            run = carried(net, table, house, 0, [damage])
            if run.end == "home" and (best is None or len(run.moves) > best[0]):
                best = (len(run.moves), damage, house)
    return best


def cut_damage(net):
    """The damage of the lines out of the weakest lot, or None for home alone."""
    lot = weakest_lot(net)
    return None if lot is None else lines_out(net, lot)


def is_cut(net, paper):
    """True if the value is a damage with a house from which it leaves no way home."""
    return has_stop_form(net, paper) and paper[1] in cut_off(net, broken=paper[0])


def thin_stop(net, table, damage, house):
    """The stop of the house with only those lines of the damage that its letter meets."""
    check_houses(net, [house])
    check_lines(net, damage)
    check_not_home(net, house)
    check_fits(net, table)
    run = carried(net, table, house, 0, [damage])
    if run.end == "home":
        raise Unlike("stop")
    return (ascending(run.met), house)
