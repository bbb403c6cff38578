"""Runs of scripts on snapshots, what depends on what in them, and their skews."""

from ordershown.conflicts import ring_in
from ordershown.stores import told_values
from ordershown.turns import Turns


class Snapshot:
    """What a transaction sees: the values at its beginning, and what it wrote itself."""

    def __init__(self, values, began):
        # How many transactions had committed.
        self.began = began
        self.written = {}
        self._values = dict(values)
        self._total = 0

    def take(self, step):
        """Take a step of the transaction's script."""
        word, item, *numbers = step
        if word == "write":
            self.written[item] = self._total + numbers[0]
        else:
            self._total += self.written.get(item, self._values.get(item, 0))


class SnapshotRun(Turns):
    """A run in which each transaction works on a snapshot of its own until it tries to commit."""

    def __init__(self, scripts):
        super().__init__(scripts)
        self._events = []
        self._values = {}
        self._snapshots = {}
        # The items that each transaction that has committed wrote.
        self._commits = []

    def told(self):
        """Return the pair of the events and the values."""
        return list(self._events), told_values(self._values)

    def _snapshot_of(self, t):
        """Return the transaction's snapshot; its first turn is its beginning."""
        if t not in self._snapshots:
            self._snapshots[t] = Snapshot(self._values, len(self._commits))
        return self._snapshots[t]

    def _step(self, t, step):
        self._snapshot_of(t).take(step)
        self._events.append((step[0], t, step[1]))
        del self._left[t][0]

    def _finish(self, t):
        snapshot = self._snapshot_of(t)
        del self._left[t]
        since = [item for items in self._commits[snapshot.began:] for item in items]
        if any([item in since for item in snapshot.written]):
            self._events.append(("abort", t))
            return
        self._events.append(("commit", t))
        self._values.update(snapshot.written)
        self._commits.append(list(snapshot.written))


def snapshot_run(scripts, weaving):
    """Return the pair (schedule, values) of the snapshot run."""
    run = SnapshotRun(scripts)
    run.give_turns(weaving)
    return run.told()


def _committed(events):
    """Return the list of the transactions that commit at these events, in order."""
    return [event[1] for event in events if event[0] == "commit"]


def _writers(events, transactions, item):
    """Return those of the transactions that write the item."""
    return [t for t in transactions if ("write", t, item) in events]


def _seen_by(events, t):
    """Return the items that the transaction read from the values at its beginning."""
    return [
        event[2] for place, event in enumerate(events)
        if event[:2] == ("read", t) and ("write", t, event[2]) not in events[:place]
    ]


def _reads_and_misses(events, t):
    """Return the dependencies that come from what the transaction read from the values at its beginning."""
    # Each turn of a transaction is an event, so that its first event is its beginning.
    beginning = [event[1] for event in events].index(t)
    found = []
    for item in _seen_by(events, t):
        earlier = _writers(events, _committed(events[:beginning]), item)
        later = _writers(events, _committed(events[beginning:]), item)
        found.extend([(other, t, "read") for other in earlier[-1:]])
        found.extend([(t, other, "miss") for other in later if other != t])
    return found


def _writes(events, item):
    """Return the dependencies that come from the writes of the item."""
    writers = _writers(events, _committed(events), item)
    return [(t, u, "write") for place, u in enumerate(writers) for t in writers[:place]]


def dependencies(scripts, weaving):
    """Return the list of the dependencies of the snapshot run, as triples (t, u, kind)."""
    events, _ = snapshot_run(scripts, weaving)
    items = sorted(set([event[2] for event in events if event[0] == "write"]))
    found = [triple for t in _committed(events) for triple in _reads_and_misses(events, t)]
    found.extend([triple for item in items for triple in _writes(events, item)])
    return sorted(set(found))


def skew(scripts, weaving):
    """Return the skew of the snapshot run, or None."""
    return ring_in([(t, u) for t, u, _ in dependencies(scripts, weaving)])
