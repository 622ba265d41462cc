"""Ways: lists of lines that lead from a house home."""

from markshome.checks import check_houses, check_not_home
from markshome.errors import Unlike


def houses_along(net, house, lines):
    """The houses of a way in order, or None if the list is no way from the house."""
    houses = [house]
    for line in lines:
        if not isinstance(line, str) or line not in net or net.tail(line) != houses[-1]:
            return None
        if net.head(line) in houses:
            return None
        houses.append(net.head(line))
    return houses if houses[-1] == net.home else None


def is_way(net, house, way):
    """True if the value is a way from the house."""
    check_houses(net, [house])
    return isinstance(way, list) and houses_along(net, house, way) is not None


def is_ways(net, house, ways):
    """True if the value is a list of ways from the house without a common line."""
    check_houses(net, [house])
    check_not_home(net, house)
    if not isinstance(ways, list) or not all([is_way(net, house, way) for way in ways]):
        return False
    # No way has a line twice, so a repeated line stands in two ways.
    lines = [line for way in ways for line in way]
    return len(lines) == len(set(lines))


def way_houses(net, house, way):
    """The houses of a way from the house in order, the house first and home last."""
    check_houses(net, [house])
    houses = houses_along(net, house, way)
    if houses is None:
        raise Unlike("way")
    return houses


def distances_home(net):
    """A dict from every house with a way home to the fewest lines of such a way."""
    found = {net.home: 0}
    queue = [net.home]
    while queue:
        house = queue.pop(0)
        for line in net.into(house):
            tail = net.tail(line)
            if tail not in found:
                found[tail] = found[house] + 1
                queue.append(tail)
    return found


def shortest_way(net, house, *, broken=()):
    """The smallest of the shortest ways without broken lines, or None."""
    check_houses(net, [house])
    left = net - list(broken)
    found = distances_home(left)
    if house not in found:
        return None
    way = []
    while house != net.home:
        nearer = [line for line in left.out(house) if found.get(left.head(line)) == found[house] - 1]
        way.append(nearer[0])
        house = left.head(nearer[0])
    return way


def distance(net, house, *, broken=()):
    """The number of lines of a shortest way without broken lines, or None."""
    check_houses(net, [house])
    return distances_home(net - list(broken)).get(house)


def home_side(net, *, broken=()):
    """The houses that have a way without broken lines, ascending."""
    found = distances_home(net - list(broken))
    return [house for house in net.houses if house in found]


def cut_off(net, *, broken=()):
    """The houses that have no way without broken lines, ascending."""
    found = distances_home(net - list(broken))
    return [house for house in net.houses if house not in found]
