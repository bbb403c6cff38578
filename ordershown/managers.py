"""Managers: lock tables with values, driven by calls."""

from ordershown.errors import ManagerError
from ordershown.schedules import ENDS, is_transaction
from ordershown.stores import Store


class Manager:
    """Reads and writes items for transactions, which have to wait where a lock is not theirs."""

    def __init__(self):
        self._store = Store()
        self._calls = []
        self._ended = []
        # The call of each transaction that waits, or waited and has to make it again.
        self._owed = {}

    @property
    def history(self):
        """The schedule of what has happened."""
        return self._store.history

    @property
    def log(self):
        """The list of the calls that were made without an error."""
        return list(self._calls)

    @property
    def contents(self):
        """The values, a list of pairs."""
        return self._store.contents

    @property
    def ended(self):
        """The list of the transactions that have ended, ascending."""
        return sorted(self._ended)

    def _fault(self, call):
        """Return why the call is refused, or None."""
        word, t = call[:2]
        if not is_transaction(t):
            return "no transaction"
        if t in self._ended:
            return "ended"
        if t not in self._owed or word == "abort":
            return None
        if self._store.waits(t):
            return "has to wait"
        if call != self._owed[t]:
            return "other call"
        return None

    def _made(self, call):
        """Make a call, and return what it returns."""
        fault = self._fault(call)
        if fault is not None:
            raise ManagerError(fault)
        self._calls.append(call)
        word, t, *rest = call
        self._owed.pop(t, None)
        if word in ENDS:
            self._ended.append(t)
            return self._store.end(t, word)
        value = self._store.make(t, (word, *rest))
        if value is None:
            self._owed[t] = call
        return value

    def read(self, t, item):
        """Return the value that is read, or None if the transaction has to wait."""
        return self._made(("read", t, item))

    def write(self, t, item, number):
        """Return the value that is written, or None if the transaction has to wait."""
        return self._made(("write", t, item, number))

    def commit(self, t):
        """End the transaction, and return the list of those whose requests are granted then."""
        return self._made(("commit", t))

    def abort(self, t):
        """Take back what the transaction wrote, and end it as commit does."""
        return self._made(("abort", t))

    def deadlock(self):
        """Return the deadlock of the lock table, or None."""
        return self._store.deadlock()

    def branch(self):
        """Return a new manager that is like this one."""
        return replayed(self._calls)

    def __len__(self):
        return len(self._calls)

    def __contains__(self, x):
        # True is the same as 1 to Python, but no transaction.
        if not isinstance(x, int) or isinstance(x, bool):
            return False
        return x in [call[1] for call in self._calls] and x not in self._ended

    def __eq__(self, other):
        if not isinstance(other, Manager):
            return NotImplemented
        # The histories tell who has ended.
        return (
            self.history == other.history
            and self._owed == other._owed
            and self._store.locks == other._store.locks
        )


def replayed(log):
    """Return the manager that the calls of a log make."""
    manager = Manager()
    for call in log:
        manager._made(call)
    return manager
