"""Logs: how trees are built line by line, and which line may be taken next."""

from markshome.checks import check_count, check_lines, check_lot_houses, is_number
from markshome.errors import BadLog, Weak
from markshome.flows import smallest_least_lot, strength, way_count
from markshome.lots import all_lots, left_over, lines_out


def is_weak(net, count):
    """True if the strength of the net is less than the count."""
    least = strength(net)
    return least is not None and least < count


def whole_length(net, count):
    """The number of entries of a whole log."""
    return count * len(net.others)


def state_of(net, count, log):
    """The present tree, the rest, the houses inside and the taken lines of a right log."""
    taken = sorted([line for _, line in log])
    if len(log) == whole_length(net, count):
        return (count, 0, net.houses, taken)
    size = len(net.others)
    index = len(log) // size
    inside = sorted([net.home] + [net.tail(line) for _, line in log[index * size:]])
    return (index, count - 1 - index, inside, taken)


def reason_of(net, count, log, line):
    """The first reason why the line may not be taken next behind a right log, or "free"."""
    if len(log) == whole_length(net, count):
        return "whole"
    _, rest, inside, taken = state_of(net, count, log)
    if line in taken:
        return "taken"
    if net.tail(line) in inside:
        return "tail"
    if net.head(line) not in inside:
        return "head"
    # Only lots with the line's tail lose a line, so the ways from there tell of all lots.
    if way_count(net, net.tail(line), broken=taken + [line]) < rest:
        return "lot"
    return "free"


def bad_place(net, count, log):
    """The index of the first entry that is not right in a net that is not weak, or None."""
    for place, (index, line) in enumerate(log):
        before = log[:place]
        if line not in net or index != state_of(net, count, before)[0]:
            return place
        if reason_of(net, count, before, line) != "free":
            return place
    return None


def check_log(net, count, log):
    """Raise Weak for a net that is weak, then BadLog for the first entry that is not right."""
    if is_weak(net, count):
        raise Weak(strength(net), count)
    place = bad_place(net, count, log)
    if place is not None:
        raise BadLog(place)


def is_entry(value):
    """True if the value has the form of an entry of a log."""
    if not isinstance(value, tuple) or len(value) != 2:
        return False
    return is_number(value[0]) and isinstance(value[1], str)


def is_log(net, count, log, *, whole=True):
    """True if the value is a right log. With `whole` True it must be whole, too."""
    check_count(count)
    if not isinstance(log, list) or not all([is_entry(entry) for entry in log]):
        return False
    if is_weak(net, count) or (whole and len(log) != whole_length(net, count)):
        return False
    return bad_place(net, count, log) is None


def log_state(net, count, log):
    """The index of the present tree, the rest, the houses inside and the taken lines."""
    check_count(count)
    check_log(net, count, log)
    return state_of(net, count, log)


def why_not(net, count, log, line):
    """A tuple of the reason why the line may not be taken next, or "free", and the lot of the reason "lot"."""
    check_count(count)
    check_lines(net, [line])
    check_log(net, count, log)
    reason = reason_of(net, count, log, line)
    if reason != "lot":
        return (reason, None)
    # Without the line, the least lots of its tail are the tight lots that it leads out of.
    taken = state_of(net, count, log)[3]
    return (reason, smallest_least_lot(net, net.tail(line), broken=taken + [line]))


def takeable(net, count, log):
    """The lines that may be taken next, ascending."""
    check_count(count)
    check_log(net, count, log)
    return [line for line in net.line_names if reason_of(net, count, log, line) == "free"]


def check_lot_log(net, count, log):
    """Raise the first error of a function that goes through the lots of a log."""
    check_count(count)
    check_lot_houses(net)
    check_log(net, count, log)


def tight_lots(net, count, log):
    """All lots with exactly as many left lines out as trees come after the present one."""
    check_lot_log(net, count, log)
    if len(log) == whole_length(net, count):
        return []
    _, rest, _, taken = state_of(net, count, log)
    return [lot for lot in all_lots(net) if len(left_over(lines_out(net, lot), taken)) == rest]


def leading_lot(net, count, log):
    """The first tight lot that has a house outside, or None."""
    check_lot_log(net, count, log)
    inside = state_of(net, count, log)[2]
    for lot in tight_lots(net, count, log):
        if left_over(lot, inside):
            return lot
    return None


def leading_lines(net, count, log):
    """The left lines from outside to the inside, within the leading lot if there is one."""
    check_lot_log(net, count, log)
    _, _, inside, taken = state_of(net, count, log)
    lot = leading_lot(net, count, log)
    place = net.houses if lot is None else lot
    rows = [row for row in net if row[0] not in taken and row[1] not in inside and row[2] in inside]
    return [line for line, tail, head in rows if tail in place and head in place]
