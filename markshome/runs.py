"""Runs: the moves that a letter makes by a table, and how they end."""

from markshome.checks import check_houses, check_lines, check_range, is_number
from markshome.marks import check_fits

MOST_MARK = 99
MOST_TURNS = 99


def move_at(net, table, house, mark, broken):
    """The move (kind, line, house, mark) of a letter in this state."""
    if house == net.home:
        return ("home", None, house, mark)
    if (house, mark) not in table:
        return ("stuck", None, house, mark)
    line, after = table.entry(house, mark)
    if line not in broken:
        return ("pass", line, net.head(line), mark)
    if after is None:
        return ("stuck", line, house, mark)
    return ("turn", line, house, after)


def step(net, table, house, mark, *, broken=()):
    """One move of a letter at the house with the mark, a tuple (kind, line, house, mark)."""
    check_range("mark", mark, 0, MOST_MARK)
    check_houses(net, [house])
    check_lines(net, broken)
    check_fits(net, table)
    return move_at(net, table, house, mark, broken)


class Run:
    """A run: the house and the mark at the beginning, the end, and the moves. It never changes."""

    def __init__(self, start, mark, end, moves):
        self.start = start
        self.mark = mark
        self.end = end
        self._moves = list(moves)

    @property
    def moves(self):
        """The moves as tuples (kind, line, house, mark), in order."""
        return list(self._moves)

    @property
    def paper(self):
        """The tuple (start, mark, end, moves)."""
        return (self.start, self.mark, self.end, list(self._moves))

    @property
    def steps(self):
        """The number of moves along a line."""
        return len([move for move in self._moves if move[0] == "pass"])

    @property
    def turns(self):
        """The number of moves to another mark."""
        return len([move for move in self._moves if move[0] == "turn"])

    @property
    def met(self):
        """The lines that the letter met broken, in order, with repeats."""
        return [move[1] for move in self._moves if move[0] in ("turn", "stuck") and move[1] is not None]

    @property
    def places(self):
        """The start, and the house after each move along a line."""
        return [self.start] + [move[2] for move in self._moves if move[0] == "pass"]

    @property
    def last(self):
        """The state (house, mark) after the last move."""
        return self._moves[-1][2:] if self._moves else (self.start, self.mark)

    def __eq__(self, other):
        return (isinstance(other, Run) and self.start == other.start and self.mark == other.mark
                and self.end == other.end and self._moves == other._moves)

    def __bool__(self):
        return bool(self.end == "home")

    def __iter__(self):
        return iter(self._moves)


def carried(net, table, start, mark, damages):
    """The run of a letter. Each move has its own damage, and the moves behind the last damage have that one."""
    moves = []
    states = [(start, mark)]
    calm = len(damages) - 1
    while states[-1][0] != net.home:
        house, present = states[-1]
        move = move_at(net, table, house, present, damages[min(len(moves), calm)])
        moves.append(move)
        if move[0] == "stuck":
            return Run(start, mark, "stuck", moves)
        # A state that was visited while the damage still changed may go on in another way now.
        if move[2:] in states[calm:]:
            return Run(start, mark, "round", moves)
        states.append(move[2:])
    return Run(start, mark, "home", moves)


def run_letter(net, table, start, *, broken=(), mark=0):
    """The run of a letter that begins at the house, with the same broken lines all the time."""
    check_range("mark", mark, 0, MOST_MARK)
    check_houses(net, [start])
    check_lines(net, broken)
    check_fits(net, table)
    return carried(net, table, start, mark, [broken])


def is_beginning(net, start, mark):
    """True if the values are a house and a mark with which a letter may begin."""
    return isinstance(start, str) and net.has_house(start) and is_number(mark) and 0 <= mark <= MOST_MARK


def is_paper(net, table, damages, paper):
    """True if the value is the paper of the run that begins as it says and meets these damages."""
    if not isinstance(paper, tuple) or len(paper) != 4 or not is_beginning(net, paper[0], paper[1]):
        return False
    if paper != carried(net, table, paper[0], paper[1], damages).paper:
        return False
    # True and False are equal to marks.
    return all([is_number(move[3]) for move in paper[3]])


def is_run(net, table, broken, paper):
    """True if the value is the paper of the run with these broken lines."""
    check_lines(net, broken)
    check_fits(net, table)
    return is_paper(net, table, [broken], paper)


def move_bound(net, turns):
    """The greatest number of moves of a run with so many turns, for the table of a grove."""
    check_range("turns", turns, 0, MOST_TURNS)
    return (turns + 1) * len(net.others)


def lost_houses(net, table, broken):
    """The houses but home from which a letter with mark 0 does not come home, ascending."""
    return [house for house in net.others if carried(net, table, house, 0, [broken]).end != "home"]


def lost(net, table, *, broken=()):
    """The houses but home from which a letter with mark 0 does not come home, ascending."""
    check_lines(net, broken)
    check_fits(net, table)
    return lost_houses(net, table, broken)
