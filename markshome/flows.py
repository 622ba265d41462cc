"""The most ways without a common line, and the lots that show that there are no more.

A flow is a dict with the lines in use as its keys. It holds as many ways from
a house as it has lines into home. Lines out of home are never in use, because
each change of a flow goes along moves that end as soon as they reach home.
"""

from markshome.checks import check_count, check_houses, check_lines, check_not_home
from markshome.errors import Unlike
from markshome.lots import is_lot, lines_out
from markshome.nets import Net
from markshome.ways import is_ways, shortest_way


def check_start(net, house, broken):
    """Raise the first error of a house that must not be home, and of broken lines."""
    check_houses(net, [house])
    check_lines(net, broken)
    check_not_home(net, house)


def moves(net, flow, house):
    """The tuples (line, house) of one move: along a line that is free, or back along one in use."""
    ahead = [(line, net.head(line)) for line in net.out(house) if line not in flow]
    back = [(line, net.tail(line)) for line in net.into(house) if line in flow]
    return ahead + back


def trails(net, flow, house):
    """A dict from every house that moves lead to from the house to the lines of the moves."""
    found = {house: []}
    queue = [house]
    while queue:
        at = queue.pop(0)
        for line, reached in moves(net, flow, at):
            if reached not in found:
                found[reached] = found[at] + [line]
                queue.append(reached)
    return found


def greatest_flow(net, house):
    """A flow with as many ways from the house as possible."""
    flow = {}
    found = trails(net, flow, house)
    while net.home in found:
        trail = found[net.home]
        flow = {line: True for line in net.line_names if (line in flow) != (line in trail)}
        found = trails(net, flow, house)
    return flow


def flow_size(net, flow):
    """The number of ways that the flow holds."""
    return len([line for line in net.into(net.home) if line in flow])


def ways_of_flow(net, flow, house):
    """The ways from the house that the flow holds. Rings of lines that it also holds are left out."""
    left = Net(net.home, net.others, [row for row in net if row[0] in flow])
    ways = []
    way = shortest_way(left, house)
    while way is not None:
        ways.append(way)
        left = left - way
        way = shortest_way(left, house)
    return ways


def most_ways(net, house, *, broken=()):
    """As many ways as possible without a common line, and the smallest least lot of the house."""
    check_start(net, house, broken)
    left = net - list(broken)
    flow = greatest_flow(left, house)
    return (ways_of_flow(left, flow, house), sorted(list(trails(left, flow, house))))


def is_ways_paper(net, house, paper):
    """True if the value is a right tuple of ways and a lot for the house."""
    check_start(net, house, [])
    if not isinstance(paper, tuple) or len(paper) != 2:
        return False
    ways, lot = paper
    if not is_ways(net, house, ways) or not is_lot(net, lot):
        return False
    return house in lot and len(lines_out(net, lot)) == len(ways)


def way_count(net, house, *, broken=()):
    """The greatest number of ways without a common line."""
    check_start(net, house, broken)
    left = net - list(broken)
    return flow_size(left, greatest_flow(left, house))


def has_ways(net, house, count, *, broken=()):
    """True if there are at least so many ways without a common line."""
    check_count(count)
    return way_count(net, house, broken=broken) >= count


def smallest_least_lot(net, house, *, broken=()):
    """The least lot of the house that lies in all others."""
    check_start(net, house, broken)
    left = net - list(broken)
    return sorted(list(trails(left, greatest_flow(left, house), house)))


def greatest_least_lot(net, house, *, broken=()):
    """The least lot of the house in which all others lie."""
    check_start(net, house, broken)
    left = net - list(broken)
    flow = greatest_flow(left, house)
    return [other for other in left.others if left.home not in trails(left, flow, other)]


def strength(net):
    """The least number of lines out of a lot, or None for home alone."""
    return min([way_count(net, house) for house in net.others], default=None)


def weakest_lot(net):
    """The smallest least lot of the first house with the fewest ways, or None for home alone."""
    least = strength(net)
    for house in net.others:
        if way_count(net, house) == least:
            return smallest_least_lot(net, house)
    return None


def more_ways(net, house, ways):
    """A list with one way more and None, or None and the smallest least lot of the house."""
    if not is_ways(net, house, ways):
        raise Unlike("ways")
    most, lot = most_ways(net, house)
    if len(most) > len(ways):
        return (most[:len(ways) + 1], None)
    return (None, lot)


def unbroken_ways(ways, broken):
    """The ways that have no broken line, in their order."""
    return [list(way) for way in ways if not any([line in broken for line in way])]
