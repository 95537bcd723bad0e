"""The land office: walkers by names, their logs, and deeds that may be taken back and done again."""

from oxhide.errors import (
    BadName, BadNumber, Full, LogFull, NoEntry, NothingLeft, NoWalker, Ring, Taken, Tied, TooLong,
)
from oxhide.logs import hung_on, log_steps, log_tally, log_walk
from oxhide.names import is_name
from oxhide.roads import land_between
from oxhide.runs import MOST_STEPS, look_walk

MOST_WALKERS = 8
MOST_ENTRIES = 40
MOST_TIMES_IN_LOG = 9


class Office:
    """Walkers with their logs, the deeds that stand and those that were taken back."""

    def __init__(self):
        # Tuples of entries by names. A deed puts a new dict in its place, so that older ones stay what they were.
        self.logs = {}
        # Each standing deed with the logs ahead of it.
        self.past = []
        # Each deed that was taken back with the logs behind it, the last one taken back at the end.
        self.future = []

    def begin(self, name):
        """Keep a new walker."""
        if not is_name(name):
            raise BadName()
        if name in self.logs:
            raise Taken()
        if len(self.logs) >= MOST_WALKERS:
            raise Full()
        self.settle(("begin", name), {**self.logs, name: ()})

    def shut(self, name):
        """Let a walker go."""
        self.look_walker(name)
        if any([("tie", name) in entries for entries in self.logs.values()]):
            raise Tied()
        left = {other: entries for other, entries in self.logs.items() if other != name}
        self.settle(("shut", name), left)

    def go(self, name, way, many):
        """Enter a run."""
        self.look_walker(name)
        look_walk([(way, many)])
        self.enter(("go", name, way, many), ("go", way, many))

    def turn(self, name):
        """Enter that all so far becomes turned."""
        self.look_walker(name)
        self.enter(("turn", name), ("turn",))

    def mirror(self, name):
        """Enter that all so far becomes mirrored."""
        self.look_walker(name)
        self.enter(("mirror", name), ("mirror",))

    def about(self, name):
        """Enter that all so far becomes the walk about."""
        self.look_walker(name)
        self.enter(("about", name), ("about",))

    def times(self, name, many):
        """Enter that all so far is gone so many times."""
        self.look_walker(name)
        if many < 0 or many > MOST_TIMES_IN_LOG:
            raise BadNumber()
        self.enter(("times", name, many), ("times", many))

    def join(self, name, other):
        """Enter the runs of the other one's walk as it is now."""
        self.look_walker(name)
        self.look_walker(other)
        self.look_room(name)
        runs = log_walk(self.logs, other)
        if any([many > MOST_STEPS for way, many in runs]):
            raise TooLong()
        self.enter(("join", name, other), ("join", tuple(runs)))

    def tie(self, name, other):
        """Enter the other one's walk as it is whenever it is asked."""
        self.look_walker(name)
        self.look_walker(other)
        if other == name or name in hung_on(self.logs, other):
            raise Ring()
        self.enter(("tie", name, other), ("tie", other))

    def late(self, name, at, way, many):
        """Enter a run ahead of the entry of this number."""
        self.look_walker(name)
        if at < 0 or at > len(self.logs[name]):
            raise NoEntry()
        look_walk([(way, many)])
        self.enter_at(("late", name, at, way, many), at, ("go", way, many))

    def strike(self, name, at):
        """Strike out the entry of this number."""
        self.look_walker(name)
        entries = self.logs[name]
        if at < 0 or at >= len(entries):
            raise NoEntry()
        self.settle(("strike", name, at), {**self.logs, name: entries[:at] + entries[at + 1:]})

    def undo(self):
        """Take the last standing deed back, and tell it."""
        if not self.past:
            raise NothingLeft()
        deed, ahead = self.past.pop()
        self.future.append((deed, self.logs))
        self.logs = ahead
        return deed

    def redo(self):
        """Do again the deed that was taken back last, and tell it."""
        if not self.future:
            raise NothingLeft()
        deed, behind = self.future.pop()
        self.past.append((deed, self.logs))
        self.logs = behind
        return deed

    def twin(self):
        """An office that stands as this one does."""
        other = Office()
        other.logs = self.logs
        other.past = list(self.past)
        other.future = list(self.future)
        return other

    def names(self):
        """The names of the walkers, in the order of beginning."""
        return list(self.logs)

    def log(self, name):
        """The entries of a walker."""
        self.look_walker(name)
        return list(self.logs[name])

    def tally(self, name):
        """The tally of a walker's walk."""
        self.look_walker(name)
        return log_tally(self.logs, name)

    def steps(self, name):
        """How many steps a walker's walk has."""
        self.look_walker(name)
        return log_steps(self.logs, name)

    def walk(self, name):
        """A walker's walk, tidied."""
        self.look_walker(name)
        return log_walk(self.logs, name)

    def hangs(self, name):
        """The names on which a walker hangs, in the order of beginning."""
        self.look_walker(name)
        return hung_on(self.logs, name)

    def dues(self, one, other):
        """The land between the walks of two walkers."""
        self.look_walker(one)
        self.look_walker(other)
        return land_between(log_tally(self.logs, one), log_tally(self.logs, other))

    def deeds(self):
        """The standing deeds, in order."""
        return [deed for deed, ahead in self.past]

    def undone(self):
        """The deeds that could be done again, the next one first."""
        return [deed for deed, behind in reversed(self.future)]

    def look_walker(self, name):
        """Refuse a name that no walker has."""
        if name not in self.logs:
            raise NoWalker()

    def look_room(self, name):
        """Refuse a walker whose log takes no more."""
        if len(self.logs[name]) >= MOST_ENTRIES:
            raise LogFull()

    def enter(self, deed, entry):
        """Put an entry at the end of the log of the deed's walker."""
        self.enter_at(deed, len(self.logs[deed[1]]), entry)

    def enter_at(self, deed, at, entry):
        """Put an entry into the log of the deed's walker ahead of the entry of this number."""
        name = deed[1]
        self.look_room(name)
        entries = self.logs[name]
        self.settle(deed, {**self.logs, name: entries[:at] + (entry,) + entries[at:]})

    def settle(self, deed, logs):
        """Let a deed stand that leads to these logs."""
        self.past.append((deed, self.logs))
        self.future = []
        self.logs = logs
