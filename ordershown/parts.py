"""Orders of parts woven into one, coherent histories, the first break, and the core."""

from ordershown.conflicts import order_of
from ordershown.histories import beginning, numbers_of, operations, part, without
from ordershown.orders import ahead_of_each
from ordershown.tables import fits


def _rows(some_history, orders):
    """Return the orders of the parts with the numbers of the whole history."""
    objects, _ = some_history
    rows = []
    for (name, _), order in zip(objects, orders):
        numbers = numbers_of(some_history, name)
        rows.append([numbers[number] for number in order])
    return rows


def woven(some_history, orders):
    """Return the woven order of orders by "real" of all parts."""
    ahead = ahead_of_each(some_history, "real")
    numbers = []
    pairs = []
    for row in _rows(some_history, orders):
        numbers.extend(row)
        pairs.extend(list(zip(row, row[1:])))
        pairs.extend([(earlier, number) for number in row for earlier in ahead[number]])
    return tuple(order_of(numbers, pairs))


def is_coherent(some_history):
    """Return whether each part of the history fits "client"."""
    objects, _ = some_history
    return all([fits(part(some_history, name), "client") for name, _ in objects])


def first_break(some_history):
    """Return the least number of events of a beginning that does not fit "real", or None."""
    _, events = some_history
    for many in range(len(events) + 1):
        if not fits(beginning(some_history, many), "real"):
            return many
    return None


def core(some_history, model):
    """Return the list of the numbers of the operations in the core, or None if the history fits."""
    if fits(some_history, model):
        return None
    left_out = []
    kept = []
    for number in range(len(operations(some_history))):
        if fits(without(some_history, [*left_out, number]), model):
            kept.append(number)
        else:
            left_out.append(number)
    return kept
