"""Building trees by a log, and the log of a grove."""

from markshome.buildlog import check_log, is_log, is_weak, reason_of, state_of, whole_length
from markshome.checks import check_count
from markshome.flows import weakest_lot
from markshome.lots import is_lot, lines_out
from markshome.trees import check_grove, depths


def smallest_free(net, count, log):
    """The smallest line that may be taken next behind a right log that is not whole."""
    for line in net.line_names:
        if reason_of(net, count, log, line) == "free":
            return line
    return None


def finished(net, count, log):
    """The whole log that takes the smallest line each time behind a right log."""
    whole = list(log)
    while len(whole) < whole_length(net, count):
        whole.append((state_of(net, count, whole)[0], smallest_free(net, count, whole)))
    return whole


def trees_of(net, count, log):
    """The trees that a right log has completed."""
    size = len(net.others)
    if size == 0:
        return [[] for _ in range(count)]
    starts = [size * index for index in range(len(log) // size)]
    return [sorted([line for _, line in log[start:start + size]]) for start in starts]


def finish_log(net, count, log):
    """The whole right log that begins with the log and takes the smallest line each time."""
    check_count(count)
    check_log(net, count, log)
    return finished(net, count, log)


def build(net, count):
    """A tuple of a grove, its log and None, or of None, None and the weakest lot."""
    check_count(count)
    if is_weak(net, count):
        return (None, None, weakest_lot(net))
    log = finished(net, count, [])
    return (trees_of(net, count, log), log, None)


def is_build(net, count, paper):
    """True if the value is a right building paper."""
    check_count(count)
    if not isinstance(paper, tuple) or len(paper) != 3:
        return False
    grove, log, lot = paper
    if lot is None:
        return is_log(net, count, log) and grove == trees_of(net, count, log)
    return grove is None and log is None and is_lot(net, lot) and len(lines_out(net, lot)) < count


def grove_of_log(net, count, log):
    """The trees that the log has completed, in order."""
    check_count(count)
    check_log(net, count, log)
    return trees_of(net, count, log)


def taking_order(net, tree):
    """The lines of a right tree by the depths of their tails, and then by their names."""
    deep = depths(net, tree)
    return [line for _, line in sorted([(deep[net.tail(line)], line) for line in tree])]


def log_of_grove(net, grove):
    """The right whole log that builds the grove."""
    check_grove(net, grove)
    return [(index, line) for index, tree in enumerate(grove) for line in taking_order(net, tree)]
