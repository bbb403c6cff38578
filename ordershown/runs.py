"""Runs of scripts under locks, and one after the other."""

from ordershown.stores import Store
from ordershown.turns import Turns


class LockedRun(Turns):
    """A run in which each step needs a lock, and deadlocks are ended by aborts."""

    def __init__(self, scripts):
        super().__init__(scripts)
        self._store = Store()

    def told(self):
        """Return the pair of the schedule of what has happened and the values."""
        return self._store.history, self._store.contents

    def _end(self, t, word):
        del self._left[t]
        self._store.end(t, word)

    def _finish(self, t):
        self._end(t, "commit")

    def _step(self, t, step):
        if self._store.waits(t):
            return
        if self._store.make(t, step) is not None:
            del self._left[t][0]
            return
        ring = self._store.deadlock()
        while ring is not None:
            self._end(max(ring), "abort")
            ring = self._store.deadlock()


def locked_run(scripts, weaving):
    """Return the pair (schedule, values) of the locked run."""
    run = LockedRun(scripts)
    run.give_turns(weaving)
    return run.told()


def serial_run(scripts, order):
    """Return the values after running the scripts of these transactions one after the other."""
    steps = dict(enumerate(scripts, start=1))
    store = Store()
    for t in order:
        for step in steps.get(t, []):
            store.make(t, step)
        store.end(t, "commit")
    return store.contents
