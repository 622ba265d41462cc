"""Diaries: lines that break and are mended at moments, and runs in time."""

from markshome.checks import check_houses, check_lines, check_many, check_names, check_range
from markshome.errors import Unlike
from markshome.marks import check_fits
from markshome.names import ascending
from markshome.runs import MOST_MARK, carried, is_paper

MOST_MOMENT = 99
MOST_EVENTS = 40
# A letter is still under way when the diary has ended.
MOST_ASKED_MOMENT = 999


def check_events(events):
    """Raise the first error of the events of a diary."""
    check_names([line for _, _, line in events])
    for moment, _, _ in events:
        check_range("moment", moment, 0, MOST_MOMENT)
    check_many("events", len(events), MOST_EVENTS)
    if not all([deed in ("break", "mend") for _, deed, _ in events]):
        raise Unlike("deed")


def broken_after(events, moment):
    """The damage after all events of this moment and of the moments before it."""
    deeds = {line: deed for at, deed, line in events if at <= moment}
    return sorted([line for line, deed in deeds.items() if deed == "break"])


class Diary:
    """A diary of events (moment, deed, line) in the order of their moments. It never changes."""

    def __init__(self, events=()):
        check_events(events)
        self._events = [event for moment in range(MOST_MOMENT + 1) for event in events if event[0] == moment]

    @property
    def events(self):
        """The events as tuples (moment, deed, line), in order."""
        return list(self._events)

    @property
    def last(self):
        """The moment of the last event, or 0 if there is none."""
        return self._events[-1][0] if self._events else 0

    def broken_at(self, moment):
        """The damage after all events of this moment and of the moments before it."""
        check_range("moment", moment, 0, MOST_ASKED_MOMENT)
        return broken_after(self._events, moment)

    def __eq__(self, other):
        return isinstance(other, Diary) and self._events == other._events

    def __add__(self, other):
        return Diary(self._events + other._events)

    def __iter__(self):
        return iter(self._events)


def check_sent(sent):
    """Raise OutOfRange for a moment at which no letter can be sent."""
    check_range("sent", sent, 0, MOST_MOMENT)


def check_diary(net, diary):
    """Raise UnknownLine for the first line of the diary's events that is no line of the net."""
    check_lines(net, [line for _, _, line in diary])


def damages_from(diary, sent):
    """The damages at the moments from the sending to the end of the diary."""
    return [diary.broken_at(moment) for moment in range(sent, max(sent, diary.last) + 1)]


def timed_run(net, table, start, diary, *, sent=0, mark=0):
    """The run of a letter that is sent at the moment, with the lines broken as the diary says."""
    check_sent(sent)
    check_range("mark", mark, 0, MOST_MARK)
    check_houses(net, [start])
    check_diary(net, diary)
    check_fits(net, table)
    return carried(net, table, start, mark, damages_from(diary, sent))


def is_timed_run(net, table, diary, sent, paper):
    """True if the value is the paper of the run in time of a letter that is sent at the moment."""
    check_sent(sent)
    check_diary(net, diary)
    check_fits(net, table)
    return is_paper(net, table, damages_from(diary, sent), paper)


def ever_broken(diary, first, last):
    """The damage of all lines that are broken at some moment from the first to the last."""
    check_range("first", first, 0, MOST_ASKED_MOMENT)
    check_range("last", last, 0, MOST_ASKED_MOMENT)
    return ascending([line for moment in range(first, last + 1) for line in diary.broken_at(moment)])


def arrival(run, sent):
    """The moment at which a letter that was sent at the moment comes home, or None."""
    check_sent(sent)
    return sent + len(run.moves) if run.end == "home" else None


def changes_at(diary, moment):
    """The events, ascending by line, that change as much at the moment as the diary does."""
    before = diary.broken_at(moment - 1) if moment > 0 else []
    after = diary.broken_at(moment)
    changed = [line for line in ascending(before + after) if (line in before) != (line in after)]
    return [(moment, "break" if line in after else "mend", line) for line in changed]


def calm_diary(diary):
    """The diary with only the changes from moment to moment."""
    return Diary([event for moment in range(MOST_MOMENT + 1) for event in changes_at(diary, moment)])


def shifted(diary, by):
    """The diary with every event so many moments later."""
    check_range("by", by, 0, MOST_MOMENT)
    return Diary([(moment + by, deed, line) for moment, deed, line in diary])
