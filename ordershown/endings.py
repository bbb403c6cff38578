"""The serial history of an order, serial histories, and the finished history."""

from ordershown.histories import operations, without
from ordershown.orders import results
from ordershown.tables import find


def serial(some_history, order):
    """Return the history in which the operations are called and return one after the other."""
    objects, _ = some_history
    told = operations(some_history)
    events = []
    for number, result in zip(order, results(some_history, order)):
        client, name, operation, arguments, _, _, _ = told[number]
        events.append(("call", client, name, operation, arguments))
        events.append(("return", client, result))
    return objects, tuple(events)


def is_serial(some_history):
    """Return whether each call is followed at once by its return, the last event aside."""
    _, events = some_history
    return all([
        event[0] == "return" or following[:2] == ("return", event[1])
        for event, following in zip(events, events[1:])
    ])


def finished(some_history, model):
    """Return the history with its pending operations returned or left out, or None if it does not fit."""
    word, order = find(some_history, model)
    if word == "table":
        return None
    got = dict(zip(order, results(some_history, order)))
    told = operations(some_history)
    pending = [number for number, operation in enumerate(told) if operation[6] is None]
    objects, events = without(some_history, [number for number in pending if number not in got])
    returns = [("return", told[number][0], got[number]) for number in pending if number in got]
    return objects, (*events, *returns)
