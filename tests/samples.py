"""Nets, values and plain reckonings that the tests share."""

import copy
import itertools
import random

from markshome.diary import Diary
from markshome.nets import Net
from markshome.runs import Run
from markshome.tables import Table

FORK_LINES = [("ac", "a", "c"), ("ah", "a", "h"), ("bc", "b", "c"), ("bh", "b", "h"), ("ca", "c", "a"),
              ("cb", "c", "b")]

# Values of every kind that a judge may be given, none of them a list of names.
KINDS = [None, True, False, 0, 1, -1, 10 ** 59, "", "a", "A", "1", "a b", "\n", (), ("a",), {}, {"a": 1},
         {"a": ["x"]}, {1: {2: []}}, [None], [True], [0], [1], [[]], [()], [{}], [{"a": "x"}], [["a"], {}],
         [[[[[[[["a"]]]]]]]], ([], []), ([], [], []), (None, None), ("x", "a"), [("x", "a", "h")]]


def fork():
    """Three houses of strength 2."""
    return Net("h", ["a", "b", "c"], FORK_LINES)


def mixed():
    """Loops at a house and at home, lines out of home, lines with equal ends, and a house without lines."""
    lines = [("a1", "a", "h"), ("a2", "a", "h"), ("ab", "a", "b"), ("aa", "a", "a"), ("bh", "b", "h"),
             ("ba", "b", "a"), ("hh", "h", "h"), ("ha", "h", "a"), ("hb", "h", "b"), ("bd", "b", "d")]
    return Net("h", ["d", "a", "b"], lines)


def alone():
    """Home alone, with loops."""
    return Net("h", [], [("l2", "h", "h"), ("l1", "h", "h")])


def chain(many):
    """So many houses, home included, in a row that leads home."""
    names = ["h"] + [f"n{k:02}" for k in range(1, many)]
    lines = [(f"l{k:02}", names[k], names[k - 1]) for k in range(1, many)]
    return Net("h", names[1:], lines)


def random_net(seed, most_others=5, most_lines=12):
    """A net of at most so many houses and lines, with loops and lines out of home."""
    chance = random.Random(seed)
    others = [f"x{k}" for k in range(chance.randint(0, most_others))]
    houses = ["h"] + others
    ends = [(chance.choice(others or houses) if chance.random() < 0.9 else "h", chance.choice(houses))
            for _ in range(chance.randint(0, most_lines))]
    names = [f"l{k}" for k in range(len(ends))]
    chance.shuffle(names)
    return Net("h", others, [(name, tail, head) for name, (tail, head) in zip(names, ends)])


def large_net(seed):
    """A net of 12 houses and 30 lines."""
    chance = random.Random(seed)
    others = [f"x{k}" for k in range(11)]
    lines = [(f"l{k}", others[k % 11], chance.choice(["h"] + others)) for k in range(30)]
    return Net("h", others, lines)


def strong_net(seed, others, count, extra=0):
    """A net that holds so many trees without a common line, and so many more lines by chance."""
    chance = random.Random(seed)
    names = [f"x{k}" for k in range(others)]
    ends = [(chance.choice(["h"] + names), chance.choice(["h"] + names)) for _ in range(extra)]
    for _ in range(count):
        order = chance.sample(names, others)
        # Few lines lead home, so that trees come into each other's way.
        ends += [(house, chance.choice(order[:place] or ["h"])) for place, house in enumerate(order)]
    chance.shuffle(ends)
    return Net("h", names, [(f"l{k}", tail, head) for k, (tail, head) in enumerate(ends)])


def random_table(net, seed, wrong=0.0):
    """A table over the houses of a net, with holes; with this chance a line or house is a wrong one."""
    chance = random.Random(seed)
    marks = chance.randint(0, 4)
    rows = []
    for house in net.others:
        for mark in range(marks):
            lines = net.out(house)
            if chance.random() < wrong:
                lines = net.line_names + ["zz"]
            if lines and chance.random() < 0.8:
                rows.append((house, mark, chance.choice(lines), chance.choice([None, *range(marks)])))
    if marks and chance.random() < wrong:
        rows.append((chance.choice(["zz", net.home]), 0, chance.choice(net.line_names + ["zz"]), None))
    return Table(marks, chance.sample(rows, len(rows)))


def remade(net):
    """An equal net whose parts were given in another order."""
    return Net(net.home, tuple(reversed(net.others)), tuple(reversed(net.lines)))


def plain_lots(net):
    """All lots, by going through the choices of a yes or no for each house."""
    found = [[house for house, taken in zip(net.others, choice) if taken]
             for choice in itertools.product((False, True), repeat=len(net.others))]
    return sorted([lot for lot in found if lot], key=lambda lot: (len(lot), lot))


def plain_out(net, lot, broken=()):
    """The lines out of a lot that are not broken."""
    return [name for name, tail, head in net.lines if tail in lot and head not in lot and name not in broken]


def plain_least_lots(net, house, broken=()):
    """The least lots of the house, by going through all lots."""
    lots = [lot for lot in plain_lots(net) if house in lot]
    least = min(len(plain_out(net, lot, broken)) for lot in lots)
    return [lot for lot in lots if len(plain_out(net, lot, broken)) == least]


def plain_strength(net):
    """The strength, by going through all lots."""
    return min((len(plain_out(net, lot)) for lot in plain_lots(net)), default=None)


def plain_ways(net, house, broken=()):
    """Every way from the house, by trying every line at every house."""
    found = []
    under_way = [([], [house])]
    while under_way:
        way, met = under_way.pop()
        if met[-1] == net.home:
            found.append(way)
            continue
        for name, tail, head in net.lines:
            if tail == met[-1] and head not in met and name not in broken:
                under_way.append((way + [name], met + [head]))
    return sorted(found)


def plain_trees(net):
    """Every tree, by trying every list of as many lines as there are houses but home."""
    found = []
    for rows in itertools.combinations(net.lines, len(net.others)):
        ahead = {tail: head for _, tail, head in rows}
        if sorted(ahead) == net.others and all(plain_arrives(net, ahead, house) for house in net.others):
            found.append(sorted(row[0] for row in rows))
    return sorted(found)


def plain_why(net, count, log, line):
    """The reason why a line may not be taken behind a right log, with its lot, by going through all lots."""
    if len(log) == count * len(net.others):
        return ("whole", None)
    index = len(log) // len(net.others)
    taken = [name for _, name in log]
    ends = {name: (tail, head) for name, tail, head in net.lines}
    inside = [net.home] + [ends[name][0] for at, name in log if at == index]
    if line in taken:
        return ("taken", None)
    if ends[line][0] in inside:
        return ("tail", None)
    if ends[line][1] not in inside:
        return ("head", None)
    rest = count - 1 - index
    if all(len(plain_out(net, lot, taken + [line])) >= rest for lot in plain_lots(net)):
        return ("free", None)
    tight = [lot for lot in plain_tight(net, count, log) if ends[line][0] in lot and ends[line][1] not in lot]
    return ("lot", min(tight, key=len))


def plain_tight(net, count, log):
    """The tight lots of a right log that is not whole, by going through all lots."""
    rest = count - 1 - len(log) // len(net.others)
    taken = [name for _, name in log]
    return [lot for lot in plain_lots(net) if len(plain_out(net, lot, taken)) == rest]


def plain_free(net, count, log):
    """The lines that may be taken behind a right log, by going through all lots."""
    return [line for line in net.line_names if plain_why(net, count, log, line)[0] == "free"]


def random_log(net, count, seed):
    """A whole right log whose lines are taken by chance, by going through all lots."""
    chance = random.Random(seed)
    log = []
    while len(log) < count * len(net.others):
        log.append((len(log) // len(net.others), chance.choice(plain_free(net, count, log))))
    return log


def plain_arrives(net, ahead, house):
    """True if the steps from house to house come home."""
    for _ in range(len(net.others) + 1):
        if house == net.home:
            return True
        house = ahead[house]
    return False


def plain_run(net, table, start, mark, broken=()):
    """The paper of a run, move by move as the definition says."""
    ends = {name: head for name, _, head in net.lines}
    rows = {(house, at): (line, after) for house, at, line, after in table.entries}
    moves = []
    met = [(start, mark)]
    house, at = start, mark
    while house != net.home:
        line, after = rows.get((house, at), (None, None))
        if line is None or (line in broken and after is None):
            moves.append(("stuck", line, house, at))
            return (start, mark, "stuck", moves)
        if line in broken:
            at = after
            moves.append(("turn", line, house, at))
        else:
            house = ends[line]
            moves.append(("pass", line, house, at))
        if house != net.home and (house, at) in met:
            return (start, mark, "round", moves)
        met.append((house, at))
    return (start, mark, "home", moves)


def plain_broken(events, moment):
    """The lines that are broken after the events of the moment, by going through the events."""
    broken = []
    for at, deed, line in events:
        if at <= moment and deed == "break" and line not in broken:
            broken.append(line)
        if at <= moment and deed == "mend" and line in broken:
            broken.remove(line)
    return sorted(broken)


def plain_timed_run(net, table, start, mark, events, sent):
    """The paper of a run in time, moment by moment as the definition says."""
    ends = {name: head for name, _, head in net.lines}
    rows = {(house, at): (line, after) for house, at, line, after in table.entries}
    last = max([event[0] for event in events], default=0)
    moves = []
    visits = [(sent, (start, mark))]
    house, at = start, mark
    moment = sent
    while house != net.home:
        broken = plain_broken(events, moment)
        line, after = rows.get((house, at), (None, None))
        if line is None or (line in broken and after is None):
            moves.append(("stuck", line, house, at))
            return (start, mark, "stuck", moves)
        if line in broken:
            at = after
            moves.append(("turn", line, house, at))
        else:
            house = ends[line]
            moves.append(("pass", line, house, at))
        moment += 1
        if house != net.home and any(state == (house, at) and visit >= last for visit, state in visits):
            return (start, mark, "round", moves)
        visits.append((moment, (house, at)))
    return (start, mark, "home", moves)


def plain_damages(net, most):
    """All damages of at most so many lines, by going through the choices of a yes or no for each line."""
    found = [list(chosen) for size in range(most + 1) for chosen in itertools.combinations(net.line_names, size)]
    return sorted(found, key=lambda damage: (len(damage), damage))


def parts(value):
    """All lists and dicts in a value, at every level."""
    found = []
    if isinstance(value, (list, dict)):
        found.append(value)
    inner = list(value.values()) if isinstance(value, dict) else value
    if isinstance(value, (list, tuple, dict)):
        for item in inner:
            found.extend(parts(item))
    return found


def spoil(value):
    """Change every list and dict in a value."""
    for part in parts(value):
        if isinstance(part, list):
            part.append("spoilt")
            part.reverse()
        else:
            part["spoilt"] = 1


def raised(call, *arguments, **more):
    """The error that a call raises as a tuple of its class's name and its fields, or None."""
    try:
        call(*arguments, **more)
    except ValueError as error:
        return (type(error).__name__, *vars(error).values())
    return None


def unharmed(test, call, *arguments, **more):
    """The result of a call, which must leave its arguments as they are and give a new and equal result each time."""
    before = copy.deepcopy([plain(value) for value in [*arguments, *more.values()]])
    result = call(*arguments, **more)
    told = copy.deepcopy(plain(result))
    given = [id(part) for value in [*arguments, *more.values()] for part in parts(value)]
    here = [id(part) for part in parts(result)]
    test.assertEqual(len(here), len(set(here)), "one list stands at two places")
    test.assertFalse(set(here) & set(given), "a list that was passed in is returned")
    again = call(*arguments, **more)
    test.assertEqual(plain(again), told)
    test.assertFalse(set(here) & set(id(part) for part in parts(again)), "a list is returned twice")
    spoil(result)
    test.assertEqual(plain(call(*arguments, **more)), told)
    test.assertEqual([plain(value) for value in [*arguments, *more.values()]], before)
    return again


def plain(value):
    """An object of the program as its parts, and every other value as it is."""
    if isinstance(value, Net):
        return (value.home, value.houses, value.lines)
    if isinstance(value, Table):
        return (value.marks, value.entries)
    if isinstance(value, Run):
        return value.paper
    if isinstance(value, Diary):
        return value.events
    return value
