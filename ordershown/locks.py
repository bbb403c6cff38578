"""Lock tables: who holds the lock of an item, who waits for it, and who waits for whom."""

from ordershown.conflicts import ring_in
from ordershown.errors import LockError


def _are_compatible(mode, other):
    return mode == "shared" and other == "shared"


class LockTable:
    """Keeps, for each item, its holders and a queue of the requests that wait."""

    def __init__(self):
        # Both have triples (item, transaction, mode), by the item. Those of one
        # item ascend among the locks, and are as in its queue among the requests.
        self._locks = ()
        self._requests = ()

    @property
    def state(self):
        """All that the table keeps; tables are alike if it is the same."""
        return self._locks, self._requests

    def holders(self, item):
        """Return the list of the pairs (transaction, mode) of the item's holders, ascending."""
        return [(t, mode) for locked, t, mode in self._locks if locked == item]

    def queue(self, item):
        """Return the list of the pairs (transaction, mode) of the item's queue, from the front on."""
        return [(t, mode) for wanted, t, mode in self._requests if wanted == item]

    def waiting(self, t):
        """Return the pair (item, mode) of the transaction's request that waits, or None."""
        for item, other, mode in self._requests:
            if other == t:
                return item, mode
        return None

    def _may_hold(self, t, item, mode):
        """Return whether all holders of the item but the transaction itself are compatible with the mode."""
        return all([_are_compatible(mode, held) for other, held in self.holders(item) if other != t])

    def _hold(self, t, item, mode):
        others = [lock for lock in self._locks if lock[:2] != (item, t)]
        self._locks = tuple(sorted([*others, (item, t, mode)]))

    def _place(self, request):
        """Return what requests are sorted by: the item, upgrades ahead of all others."""
        item, t, _ = request
        return item, t not in [holder for holder, _ in self.holders(item)]

    def ask(self, t, item, mode):
        """Ask for a lock, and return "held", "granted" or "waits"."""
        if self.waiting(t) is not None:
            raise LockError("waits already")
        held = [own for holder, own in self.holders(item) if holder == t]
        if mode in held or "exclusive" in held:
            return "held"
        if (len(held) > 0 or len(self.queue(item)) == 0) and self._may_hold(t, item, mode):
            self._hold(t, item, mode)
            return "granted"
        # Sorting keeps the order of those that have the same place.
        self._requests = tuple(sorted([*self._requests, (item, t, mode)], key=self._place))
        return "waits"

    def _wanted(self):
        """Return the list of the items with a queue, in alphabetical order."""
        return sorted(set([item for item, _, _ in self._requests]))

    def _drop_request(self, t):
        self._requests = tuple([request for request in self._requests if request[1] != t])

    def _grant(self, item):
        """Grant requests from the front of the item's queue, and return their transactions."""
        granted = []
        requests = self.queue(item)
        for t, mode in requests:
            if not self._may_hold(t, item, mode):
                break
            self._drop_request(t)
            self._hold(t, item, mode)
            granted.append(t)
        return granted

    def release(self, t):
        """Take all locks and a waiting request of the transaction away, and return whose requests are granted then."""
        self._locks = tuple([lock for lock in self._locks if lock[1] != t])
        self._drop_request(t)
        granted = []
        for item in self._wanted():
            granted.extend(self._grant(item))
        return granted

    def _pairs_of(self, item):
        """Return the waiting pairs at this item."""
        holders = self.holders(item)
        queue = self.queue(item)
        found = []
        for place, (t, mode) in enumerate(queue):
            for other, theirs in [*holders, *queue[:place]]:
                if other != t and not _are_compatible(mode, theirs):
                    found.append((t, other))
        return found

    def pairs(self):
        """Return the list of the waiting pairs, ascending."""
        return sorted(set([pair for item in self._wanted() for pair in self._pairs_of(item)]))

    def deadlock(self):
        """Return the ring of the waiting pairs, or None."""
        return ring_in(self.pairs())
