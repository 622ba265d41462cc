"""Parted nets, ways without a common house, house cuts, and several homes made one."""

from markshome.checks import check_houses, check_many, check_not_home, check_repeats
from markshome.errors import BadName, Unlike
from markshome.flows import most_ways, smallest_least_lot
from markshome.lots import is_lot, lines_out
from markshome.names import MOST_HOUSES, MOST_LINES, is_name
from markshome.nets import Net
from markshome.stops import is_damage
from markshome.ways import cut_off, is_ways


def check_parts(net):
    """Raise the first error of a net that is too large to be parted, or has too long a name."""
    for name in [net.home] + net.others + net.line_names:
        # One sign more must fit, for the names in the parted net.
        if not is_name(name + "0"):
            raise BadName(name)
    check_many("houses", 1 + 2 * len(net.others), MOST_HOUSES)
    check_many("lines", len(net.others) + len(net.line_names), MOST_LINES)


def part_of(net, house, sign):
    """The name of the home, or of that part of another house, in the parted net."""
    return house + "9" if house == net.home else house + sign


def part_houses(net):
    """The net in which every house but home is a way in and a way out with one line between them."""
    check_parts(net)
    houses = [house + sign for house in net.others for sign in ("0", "1")]
    inner = [(house + "1", house + "0", house + "1") for house in net.others]
    outer = [(name + "0", part_of(net, tail, "1"), part_of(net, head, "0")) for name, tail, head in net]
    return Net(net.home + "9", houses, inner + outer)


def old_names(lines, sign):
    """The names without their last sign, of the lines of a parted net that have this last sign, in order."""
    return [line[:-1] for line in lines if line[-1] == sign]


def check_parted_start(net, house):
    """Raise the first error of a net that must be parted and of a house that must not be home."""
    check_parts(net)
    check_houses(net, [house])
    check_not_home(net, house)


def house_ways(net, house):
    """As many ways from the house as possible without a common house but home."""
    check_parted_start(net, house)
    ways, _ = most_ways(part_houses(net), house + "1")
    return [old_names(way, "0") for way in ways]


def house_cut(net, house):
    """A tuple of the fewest houses and lines together that leave the house no way home."""
    check_parted_start(net, house)
    parted = part_houses(net)
    cut = lines_out(parted, smallest_least_lot(parted, house + "1"))
    return (sorted(old_names(cut, "1")), sorted(old_names(cut, "0")))


def is_house_ways(net, house, ways):
    """True if the value is a list of ways from the house without a common house but home."""
    if not is_ways(net, house, ways):
        return False
    entered = [net.head(line) for way in ways for line in way[:-1]]
    return len(entered) == len(set(entered))


def is_house_cut(net, house, paper):
    """True if the value is a tuple of houses and lines that leave the house no way home."""
    check_houses(net, [house])
    check_not_home(net, house)
    if not isinstance(paper, tuple) or len(paper) != 2:
        return False
    houses, lines = paper
    if houses != [] and (not is_lot(net, houses) or house in houses):
        return False
    if not is_damage(net, lines):
        return False
    closed = [line for other in houses for line in net.into(other)]
    return house in cut_off(net, broken=lines + closed)


def gathered(net, homes, house):
    """The house, or home if it is one of the homes."""
    return net.home if house in homes else house


def gather_homes(net, homes):
    """The net in which all houses of the list are the one home."""
    check_repeats(homes)
    check_houses(net, homes)
    if net.home not in homes:
        raise Unlike("homes")
    others = [house for house in net.others if house not in homes]
    return Net(net.home, others, [(name, gathered(net, homes, tail), gathered(net, homes, head))
                                  for name, tail, head in net])
