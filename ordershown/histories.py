"""Histories: how they are made, their operations, and how they are cut and renamed."""

from ordershown.errors import HistoryError
from ordershown.faults import are_objects, calls_in, fault_of, is_name, pending_after
from ordershown.limits import CALLS


def history(objects, events):
    """Return the history of these lists of objects and events."""
    if not are_objects(objects):
        raise HistoryError(-1, "wrong objects")
    kinds = dict(objects)
    pending = {}
    for index, event in enumerate(events):
        fault = fault_of(kinds, pending, event)
        if fault is not None:
            raise HistoryError(index, fault)
        pending = pending_after(pending, event)
    if calls_in(events) > CALLS:
        raise HistoryError(len(events), "too many calls")
    return tuple(objects), tuple(events)


def _owners(events):
    """Return, for each event, the number of the operation to which it belongs."""
    owners = []
    latest = {}
    calls = 0
    for event in events:
        if event[0] == "call":
            latest[event[1]] = calls
            calls += 1
        owners.append(latest[event[1]])
    return owners


def operations(some_history):
    """Return a list with a tuple for each operation, in the order of their calls.

    Each is (client, name, operation, arguments, result, called, returned).
    """
    _, events = some_history
    told = []
    for index, (event, number) in enumerate(zip(events, _owners(events))):
        if event[0] == "call":
            _, client, name, operation, arguments = event
            told.append((client, name, operation, arguments, None, index, None))
        else:
            client, name, operation, arguments, _, called, _ = told[number]
            told[number] = (client, name, operation, arguments, event[2], called, index)
    return told


def _events_of(events, numbers):
    """Return the tuple of those events that belong to the operations with these numbers."""
    return tuple([event for event, owner in zip(events, _owners(events)) if owner in numbers])


def numbers_of(some_history, name):
    """Return the list of the numbers of the operations on one of the objects."""
    return [number for number, told in enumerate(operations(some_history)) if told[1] == name]


def part(some_history, name):
    """Return the history of one of the objects, with the events of its operations."""
    objects, events = some_history
    numbers = numbers_of(some_history, name)
    return tuple([pair for pair in objects if pair[0] == name]), _events_of(events, numbers)


def beginning(some_history, many):
    """Return the history of the first events, so many of them."""
    objects, events = some_history
    return objects, events[:many]


def without(some_history, numbers):
    """Return the history without the events of the operations with these numbers."""
    objects, events = some_history
    left = [number for number in _owners(events) if number not in numbers]
    return objects, _events_of(events, left)


def renamed(some_history, names):
    """Return the history with other names of its clients; names has the new name of each old one."""
    objects, events = some_history
    chosen = {event[1]: names.get(event[1], event[1]) for event in events}
    told = list(chosen.values())
    if len(set(told)) < len(told) or not all([is_name(name) for name in told]):
        raise HistoryError(-1, "wrong client")
    return objects, tuple([(event[0], chosen[event[1]], *event[2:]) for event in events])
