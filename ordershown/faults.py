"""What can be wrong with the objects and the events of a history."""

from ordershown.limits import OBJECTS, VALUE
from ordershown.objects import argument_count, is_kind, is_possible, operations_of_kind

NAME_LENGTH = 8


def is_letter(sign):
    """Return whether the string of one sign is a letter from a to z."""
    return "a" <= sign <= "z"


def _is_digit(sign):
    return "0" <= sign <= "9"


def is_name(word):
    """Return whether the string is a name of an object or a client."""
    if not 1 <= len(word) <= NAME_LENGTH or not is_letter(word[0]):
        return False
    return all([is_letter(sign) or _is_digit(sign) for sign in word])


def are_objects(objects):
    """Return whether a history may have these pairs (name, kind) as its objects."""
    names = [name for name, _ in objects]
    if not 1 <= len(names) <= OBJECTS or names != sorted(set(names)):
        return False
    return all([is_name(name) and is_kind(kind) for name, kind in objects])


def _are_values(arguments):
    return all([0 <= argument <= VALUE for argument in arguments])


def _fault_of_call(kinds, pending, event):
    _, client, name, operation, arguments = event
    if not is_name(client):
        return "wrong client"
    if client in pending:
        return "call is pending"
    if name not in kinds:
        return "unknown object"
    if operation not in operations_of_kind(kinds[name]):
        return "unknown operation"
    if len(arguments) != argument_count(kinds[name], operation) or not _are_values(arguments):
        return "wrong arguments"
    return None


def _fault_of_return(kinds, pending, event):
    _, client, result = event
    if client not in pending:
        return "nothing is pending"
    _, _, name, operation, _ = pending[client]
    if not is_possible(kinds[name], operation, result):
        return "wrong result"
    return None


def fault_of(kinds, pending, event):
    """Return what is wrong with an event, or None.

    kinds has the kind of each object by its name, pending the call of each
    client that has not returned, as pending_after tells it.
    """
    if event[0] == "call":
        return _fault_of_call(kinds, pending, event)
    return _fault_of_return(kinds, pending, event)


def calls_in(events):
    """Return how many of the events are calls."""
    return len([event for event in events if event[0] == "call"])


def pending_after(pending, event):
    """Return a new dict of the pending calls, each by its client, behind an event without a fault."""
    after = {client: call for client, call in pending.items() if client != event[1]}
    if event[0] == "call":
        after[event[1]] = event
    return after
