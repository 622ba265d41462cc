"""The post: several letters under way at once, while lines break and are mended."""

from markshome.checks import check_houses, check_lines, check_many, check_names, check_range
from markshome.diary import MOST_EVENTS, MOST_MOMENT, Diary, broken_after
from markshome.errors import Duplicate, Unlike
from markshome.marks import check_fits
from markshome.runs import move_at

MOST_LETTERS = 12


def state_after(net, move):
    """The state of a letter behind this move."""
    if move[2] == net.home:
        return "home"
    return "stuck" if move[0] == "stuck" else "under way"


class Post:
    """A post with a net, a table, a moment, events and letters."""

    def __init__(self, net, table):
        check_fits(net, table)
        self.moment = 0
        self._net = net
        self._table = table
        self._events = []
        # For each letter: where it is, its moves, and the moment when it was sent.
        self._spots = {}
        self._histories = {}
        self._moments = {}

    def send(self, name, house):
        """Put a letter with mark 0 at the house."""
        check_names([name])
        check_many("letters", len(self._spots) + 1, MOST_LETTERS)
        if name in self._spots:
            raise Duplicate(name)
        check_houses(self._net, [house])
        self._spots[name] = (house, 0, "home" if house == self._net.home else "under way")
        self._histories[name] = []
        self._moments[name] = self.moment

    def _note_event(self, deed, line):
        check_many("events", len(self._events) + 1, MOST_EVENTS)
        check_lines(self._net, [line])
        self._events.append((self.moment, deed, line))

    def break_line(self, line):
        """Break the line at the present moment."""
        self._note_event("break", line)

    def mend_line(self, line):
        """Mend the line at the present moment."""
        self._note_event("mend", line)

    def _names_under_way(self):
        return sorted([name for name, spot in self._spots.items() if spot[2] == "under way"])

    def tick(self):
        """Let every letter that is under way make one move. Returns the tuples (name, move), ascending by name."""
        check_range("moment", self.moment + 1, 0, MOST_MOMENT)
        damage = self.damage
        told = []
        names = self._names_under_way()
        for name in names:
            house, mark, _ = self._spots[name]
            move = move_at(self._net, self._table, house, mark, damage)
            self._spots[name] = (move[2], move[3], state_after(self._net, move))
            self._histories[name].append(move)
            told.append((name, move))
        self.moment = self.moment + 1
        return told

    def _check_letter(self, name):
        if name not in self._spots:
            raise Unlike("letter")

    def spot(self, name):
        """The house, the mark and the state of the letter."""
        self._check_letter(name)
        return self._spots[name]

    def history(self, name):
        """The moves of the letter."""
        self._check_letter(name)
        return list(self._histories[name])

    def sent(self, name):
        """The moment when the letter was sent."""
        self._check_letter(name)
        return self._moments[name]

    @property
    def settled(self):
        """True if no letter is under way."""
        return self._names_under_way() == []

    @property
    def damage(self):
        """The lines that are broken at present, ascending."""
        return broken_after(self._events, self.moment)

    @property
    def diary(self):
        """The diary of the events so far."""
        return Diary(self._events)
