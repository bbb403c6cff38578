"""Conflicts and views: which serial schedules a schedule is like."""

from ordershown.errors import ScheduleError
from ordershown.limits import VIEWED
from ordershown.schedules import transactions_of, without_aborted


def _conflict(one, two):
    """Return whether the operations are of different transactions and the same item, and one is a write."""
    return one[1] != two[1] and one[2:] == two[2:] and "write" in (one[0], two[0])


def conflict_graph(schedule):
    """Return the list of all pairs (t, u) such that an operation of t conflicts with a later one of u."""
    kept = without_aborted(schedule)
    return sorted(set([
        (one[1], two[1])
        for place, two in enumerate(kept)
        for one in kept[:place]
        if _conflict(one, two)
    ]))


def _ahead_of_each(numbers, pairs):
    """Return for each number the list of those that have a pair with it."""
    ahead = {number: [] for number in numbers}
    for one, two in pairs:
        ahead[two].append(one)
    return ahead


def order_of(numbers, pairs):
    """Return the numbers, each time the least one that none of those left has a pair with, or None."""
    ahead = _ahead_of_each(numbers, pairs)
    came = {}
    while len(came) < len(numbers):
        free = [
            number for number in numbers
            if number not in came and all([one in came for one in ahead[number]])
        ]
        if len(free) == 0:
            return None
        came[min(free)] = True
    return list(came)


def _steps_to(goal, ahead):
    """Return how many pairs lead to the goal at least, for each number from which one gets there."""
    steps = {goal: 0}
    reached = [goal]
    place = 0
    while place < len(reached):
        number = reached[place]
        for earlier in ahead[number]:
            if earlier not in steps:
                steps[earlier] = steps[number] + 1
                reached.append(earlier)
        place += 1
    return steps


def _ring_from(first, ahead, behind):
    """Return the first one of the shortest rings that begin with this number, or None."""
    steps = _steps_to(first, ahead)
    ring = []
    number = first
    while len(ring) == 0 or number != first:
        ways = [(steps[following], following) for following in behind[number] if following in steps]
        if len(ways) == 0:
            return None
        ring.append(number)
        _, number = min(ways)
    return ring


def ring_in(pairs):
    """Return the first one of the shortest rings of the pairs, or None."""
    numbers = sorted(set([number for pair in pairs for number in pair]))
    ahead = _ahead_of_each(numbers, pairs)
    behind = _ahead_of_each(numbers, [(two, one) for one, two in pairs])
    rings = [_ring_from(number, ahead, behind) for number in numbers]
    found = [(len(ring), ring) for ring in rings if ring is not None]
    if len(found) == 0:
        return None
    _, shortest = min(found)
    return shortest


def serial_order(schedule):
    """Return the serial order of the schedule, or None if there is a ring."""
    return order_of(transactions_of(without_aborted(schedule)), conflict_graph(schedule))


def ring_of(schedule):
    """Return the ring of the schedule, or None if it is serializable."""
    return ring_in(conflict_graph(schedule))


def serial_schedule(schedule, order):
    """Return the schedule in which the transactions come one after the other, each whole."""
    return [operation for t in order for operation in schedule if operation[1] == t]


def _conflicts_of(schedule):
    """Return all pairs of conflicting operations, the earlier one first, however the pairs stand."""
    # Equal operations are told apart by how many of them stand ahead.
    numbered = [(operation, schedule[:place].count(operation)) for place, operation in enumerate(schedule)]
    return sorted([
        (one, two)
        for place, two in enumerate(numbered)
        for one in numbered[:place]
        if _conflict(one[0], two[0])
    ])


def are_conflict_equivalent(schedule, other):
    """Return whether each two conflicting operations stand in the same order in both schedules."""
    return _conflicts_of(schedule) == _conflicts_of(other)


def view_of(schedule):
    """Return the pair (reads, last): what each read reads from, and the last writer of each item."""
    reads = []
    writers = {}
    for word, t, *items in without_aborted(schedule):
        for item in items:
            if word == "read":
                reads.append((t, item, writers.get(item, 0)))
            else:
                writers[item] = t
    return sorted(reads, key=lambda read: read[0]), sorted(list(writers.items()))


def _orders_of(numbers):
    """Return all orders of the numbers, which ascend, in lexicographic order."""
    if len(numbers) == 0:
        return [[]]
    return [
        [first, *rest]
        for first in numbers
        for rest in _orders_of([number for number in numbers if number != first])
    ]


def view_order(schedule):
    """Return the first order of which the serial schedule is view equivalent to the schedule, or None."""
    kept = without_aborted(schedule)
    numbers = transactions_of(kept)
    if len(numbers) > VIEWED:
        raise ScheduleError(0, "too many transactions")
    view = view_of(kept)
    for order in _orders_of(numbers):
        if view_of(serial_schedule(kept, order)) == view:
            return order
    return None


def _one_by_one(schedule):
    """Return the operations of the transactions that are not aborted, transaction by transaction."""
    kept = without_aborted(schedule)
    return serial_schedule(kept, transactions_of(kept))


def are_view_equivalent(schedule, other):
    """Return whether both have the same transactions that are not aborted, and the same view."""
    return _one_by_one(schedule) == _one_by_one(other) and view_of(schedule) == view_of(other)
