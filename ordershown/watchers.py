"""Watchers: histories judged event by event, as they come."""

from ordershown.errors import HistoryError
from ordershown.faults import are_objects, calls_in, fault_of, pending_after
from ordershown.limits import CALLS
from ordershown.moves import done
from ordershown.objects import first_state


def _steps_from(ways, position):
    """Return the live positions to which one gets by one of the pending operations."""
    states, kept = position
    placed = [pair[0] for pair in kept]
    found = []
    for client, place, kind, operation, arguments in ways:
        if client not in placed:
            after, result = done(states, place, kind, operation, arguments)
            found.append((after, tuple(sorted([*kept, (client, result)]))))
    return found


def _grown(live, ways):
    """Return the live positions with all to which one gets by any number of the pending operations."""
    seen = {position: True for position in live}
    waiting = list(live)
    while len(waiting) > 0:
        position = waiting.pop()
        for following in _steps_from(ways, position):
            if following not in seen:
                seen[following] = True
                waiting.append(following)
    return list(seen)


def _returned(live, client, result):
    """Return the live positions in which the client's operation is placed with this result."""
    return [
        (states, tuple([pair for pair in kept if pair[0] != client]))
        for states, kept in live
        if (client, result) in kept
    ]


class Watcher:
    """Takes events one by one, and tells whether those that it has seen fit "real"."""

    def __init__(self, objects):
        if not are_objects(objects):
            raise HistoryError(-1, "wrong objects")
        self._objects = tuple(objects)
        self._events = ()
        self._pending = {}
        # A live position is told as the states and the kept results of the
        # pending operations, by client: all others that are placed returned.
        self._live = [(tuple([first_state(kind) for _, kind in objects]), ())]
        self._past = []

    @property
    def history(self):
        """The history of what was seen."""
        return self._objects, self._events

    @property
    def fits(self):
        """Whether what was seen fits "real"."""
        return len(self._live) > 0

    @property
    def live(self):
        """The number of the live positions."""
        return len(self._live)

    def _fault(self, event):
        fault = fault_of(dict(self._objects), self._pending, event)
        if fault is None and event[0] == "call" and calls_in(self._events) >= CALLS:
            return "too many calls"
        return fault

    def _ways(self):
        """Return what _steps_from needs of each pending operation."""
        kinds = dict(self._objects)
        names = [name for name, _ in self._objects]
        return [
            (client, names.index(name), kinds[name], operation, arguments)
            for _, client, name, operation, arguments in self._pending.values()
        ]

    def see(self, event):
        """Take an event, and return whether what was seen fits then."""
        fault = self._fault(event)
        if fault is not None:
            raise HistoryError(len(self._events), fault)
        self._past.append((self._events, self._pending, self._live))
        self._events = (*self._events, event)
        self._pending = pending_after(self._pending, event)
        if event[0] == "call":
            self._live = _grown(self._live, self._ways())
        else:
            self._live = _returned(self._live, event[1], event[2])
        return self.fits

    def undo(self):
        """Take back the last event, and return whether there was one."""
        if len(self._past) == 0:
            return False
        self._events, self._pending, self._live = self._past.pop()
        return True

    def branch(self):
        """Return a new watcher that is like this one, also in what can be taken back."""
        other = Watcher(list(self._objects))
        # What these attributes hold is replaced and never modified, but for _past.
        other._events = self._events
        other._pending = self._pending
        other._live = self._live
        other._past = list(self._past)
        return other

    def __len__(self):
        return len(self._events)

    def __iter__(self):
        return iter(self._events)

    def __eq__(self, other):
        if not isinstance(other, Watcher):
            return NotImplemented
        return self._objects == other._objects and self._events == other._events
