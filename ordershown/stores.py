"""Stores: values of items that transactions read and write under locks."""

from ordershown.locks import LockTable

MODES = {"read": "shared", "write": "exclusive"}


def told_values(values):
    """Return the list of the pairs (item, value) of all items whose value is not 0, ascending."""
    return sorted([(item, value) for item, value in values.items() if value != 0])


class Store:
    """A lock table with values, and the schedule of what has happened."""

    def __init__(self):
        self._table = LockTable()
        self._done = []
        self._values = {}
        # Of each transaction that has not ended: the sum of what it has read,
        # and by the pair (transaction, item) the value ahead of its first write.
        self._sums = {}
        self._before = {}

    @property
    def history(self):
        """The schedule of what has happened."""
        return list(self._done)

    @property
    def contents(self):
        """The values."""
        return told_values(self._values)

    @property
    def locks(self):
        """All that the lock table keeps; the tables are alike if it is the same."""
        return self._table.state

    def waits(self, t):
        """Return whether a request of the transaction waits."""
        return self._table.waiting(t) is not None

    def deadlock(self):
        """Return the deadlock of the lock table, or None."""
        return self._table.deadlock()

    def make(self, t, step):
        """Make a step, and return the value that is read or written, or None if the transaction has to wait."""
        word, item, *numbers = step
        if self._table.ask(t, item, MODES[word]) == "waits":
            return None
        self._done.append((word, t, item))
        value = self._values.get(item, 0)
        if word == "read":
            self._sums[t] = self._sums.get(t, 0) + value
            return value
        self._before.setdefault((t, item), value)
        self._values[item] = self._sums.get(t, 0) + numbers[0]
        return self._values[item]

    def end(self, t, word):
        """Commit or abort a transaction, and return whose requests are granted then."""
        if word == "abort":
            for (writer, item), value in self._before.items():
                if writer == t:
                    self._values[item] = value
        self._sums = {other: total for other, total in self._sums.items() if other != t}
        self._before = {pair: value for pair, value in self._before.items() if pair[0] != t}
        self._done.append((word, t))
        return self._table.release(t)
