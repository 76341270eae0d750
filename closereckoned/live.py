"""Live houses, with a ground, a net and a table that events change."""

from closereckoned.changes import refusal, state_after
from closereckoned.errors import InvalidEvent, NothingToUndo
from closereckoned.fitting import fits
from closereckoned.grades import grade_of
from closereckoned.knitting import clumps_of
from closereckoned.liveevents import is_event
from closereckoned.needs import need
from closereckoned.netfitting import net_word
from closereckoned.nets import need_netted
from closereckoned.partings import atoms_of
from closereckoned.tables import answer_at


class LiveHouses:
    """Houses that live by events, each of which can be taken back."""

    MOST = 40

    def __init__(self, ground, net, table):
        need_netted(ground, net, table)
        # Of each triple of a ground, a net and a table only the next event makes another one.
        self._states = [(ground, net, table)]
        self._events = []
        self._calls = 0

    @property
    def ground_now(self):
        """The ground."""
        return self._states[-1][0]

    @property
    def net_now(self):
        """The net."""
        return self._states[-1][1]

    @property
    def table_now(self):
        """The table."""
        return self._states[-1][2]

    @property
    def fits_now(self):
        """Whether the table fits the ground."""
        return fits(self.ground_now, self.table_now)

    @property
    def word_now(self):
        """Whether a plan over the net is there: "none", "plan", or "unknown"."""
        return net_word(self.ground_now, self.net_now, self.table_now)

    @property
    def atoms_now(self):
        """The set of the atoms."""
        sizes, fears = self.ground_now
        return atoms_of(len(sizes), fears)

    @property
    def clumps_now(self):
        """The set of the clumps."""
        return clumps_of(self.ground_now[0], self.table_now)

    @property
    def grade_now(self):
        """The greatest grade of the fears, or None."""
        sizes, fears = self.ground_now
        return grade_of(len(sizes), fears)

    def fear(self, lot):
        """The lot, and each within it, is feared, too."""
        return self.go(("fear", lot))

    def calm(self, lot):
        """The lot, and each that holds it, is feared no longer."""
        return self.go(("calm", lot))

    def answer(self, setting, bit):
        """The table has this answer for the setting."""
        return self.go(("answer", setting, bit))

    def wire(self, one, other):
        """A wire comes to join the two houses."""
        return self.go(("wire", one, other))

    def unwire(self, one, other):
        """The wire that joins the two houses goes."""
        return self.go(("unwire", one, other))

    def leave(self, house, choice):
        """The house leaves with the choice."""
        return self.go(("leave", house, choice))

    def enter(self):
        """A house of one choice comes."""
        return self.go(("enter",))

    def go(self, event):
        """Apply the event; the triple of the ground, the net and the table after it."""
        self._calls += 1
        self.take(event)
        return self._states[-1]

    def take(self, event):
        """Apply the event, as go does, but so that no tally tells of it."""
        reason = self.barred(event)
        if reason is not None:
            raise InvalidEvent(event, reason)
        self._put(event)

    def barred(self, event):
        """The reason for which the event, any value, would be refused, or None."""
        return self._reason(self._states[-1], len(self._events), event)

    def tried(self, *events):
        """The triple of the ground, the net and the table as it would be after these events."""
        state = self._states[-1]
        for k, event in enumerate(events):
            reason = self._reason(state, len(self._events) + k, event)
            if reason is not None:
                raise InvalidEvent(event, reason)
            state = state_after(state, event)
        return state

    def undo(self):
        """Take the last event back; this one."""
        self._calls += 1
        if len(self._events) == 0:
            raise NothingToUndo(1)
        self._states.pop()
        return self._events.pop()

    def do_all(self, *events, keep=False):
        """Apply the events in order; how many. If one is refused, none stays, or with keep those ahead of it."""
        self._calls += 1
        need(isinstance(keep, bool), "keep")
        before = len(self._events)
        for event in events:
            reason = self.barred(event)
            if reason is not None:
                if not keep:
                    self._states = self._states[:before + 1]
                    self._events = self._events[:before]
                raise InvalidEvent(event, reason)
            self._put(event)
        return len(events)

    def tally(self):
        """How many calls that may change the houses were started, and how many finished."""
        return (self._calls, self._calls)

    def log(self):
        """The beginning, and behind it the events that are not undone."""
        ground, net, table = self._states[0]
        return (("begin", ground, net, table), *self._events)

    def __getitem__(self, at):
        """The answer for the setting."""
        return answer_at(self.ground_now[0], self.table_now, at)

    def __contains__(self, x):
        """Whether x, any value, is one of the events that are not undone."""
        return is_event(x) and x in self._events

    def __len__(self):
        """How many events are not undone."""
        return len(self._events)

    def __iter__(self):
        """The events that are not undone, in order."""
        return iter(self._events)

    def __eq__(self, other):
        """Whether other, any value, is a LiveHouses with an equal log."""
        if not isinstance(other, LiveHouses):
            return False
        return self._states[0] == other._states[0] and self._events == other._events

    def _reason(self, state, many, event):
        """The reason for which the event would be refused in this state, behind so many others, or None."""
        if not is_event(event):
            return "shape"
        if many >= self.MOST:
            return "full"
        return refusal(state, event)

    def _put(self, event):
        """Apply an event that is not refused."""
        self._states.append(state_after(self._states[-1], event))
        self._events.append(event)
