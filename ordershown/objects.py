"""The four kinds of objects: their states, operations and results."""

from ordershown.limits import RESULT


def _write(state, value):
    return value, "ok"


def _read(state):
    return state, state


def _swap(state, old, new):
    if state == old:
        return new, "yes"
    return state, "no"


def _add(state, value):
    return state + value, "ok"


def _get(state):
    return state, state


def _insert(state, value):
    if value in state:
        return state, "no"
    return tuple(sorted([*state, value])), "yes"


def _remove(state, value):
    if value not in state:
        return state, "no"
    return tuple([member for member in state if member != value]), "yes"


def _has(state, value):
    if value in state:
        return state, "yes"
    return state, "no"


def _put(state, value):
    return (*state, value), "ok"


def _take(state):
    if len(state) == 0:
        return state, "empty"
    return state[1:], state[0]


FIRST_STATES = {"register": 0, "counter": 0, "set": (), "queue": ()}

# operations_of_kind reads its order from this dict, so the entries stand in
# the order of the document's table.
ACTIONS = {
    ("register", "write"): _write,
    ("register", "read"): _read,
    ("register", "swap"): _swap,
    ("counter", "add"): _add,
    ("counter", "get"): _get,
    ("set", "insert"): _insert,
    ("set", "remove"): _remove,
    ("set", "has"): _has,
    ("queue", "put"): _put,
    ("queue", "take"): _take,
}

ARGUMENTS = {
    ("register", "write"): 1,
    ("register", "read"): 0,
    ("register", "swap"): 2,
    ("counter", "add"): 1,
    ("counter", "get"): 0,
    ("set", "insert"): 1,
    ("set", "remove"): 1,
    ("set", "has"): 1,
    ("queue", "put"): 1,
    ("queue", "take"): 0,
}

WORDS = {
    ("register", "write"): ("ok",),
    ("register", "read"): (),
    ("register", "swap"): ("yes", "no"),
    ("counter", "add"): ("ok",),
    ("counter", "get"): (),
    ("set", "insert"): ("yes", "no"),
    ("set", "remove"): ("yes", "no"),
    ("set", "has"): ("yes", "no"),
    ("queue", "put"): ("ok",),
    ("queue", "take"): ("empty",),
}

TELLS_INTEGER = (("register", "read"), ("counter", "get"), ("queue", "take"))


def first_state(kind):
    """Return the state in which an object of this kind begins."""
    return FIRST_STATES[kind]


def operations_of_kind(kind):
    """Return a new list of the operations of this kind, in the order of the document's table."""
    return [operation for owner, operation in ACTIONS if owner == kind]


def is_kind(word):
    """Return whether the string is one of the four kinds."""
    return word in FIRST_STATES


def is_operation(word):
    """Return whether some kind has an operation of this name."""
    return word in [operation for _, operation in ACTIONS]


def argument_count(kind, operation):
    """Return how many values the operation takes."""
    return ARGUMENTS[(kind, operation)]


def step(kind, state, operation, arguments):
    """Return the pair (next state, result) of doing the operation in this state."""
    action = ACTIONS[(kind, operation)]
    return action(state, *arguments)


def is_possible(kind, operation, result):
    """Return whether the document's table allows this result for the operation."""
    if isinstance(result, str):
        return result in WORDS[(kind, operation)]
    return (kind, operation) in TELLS_INTEGER and 0 <= result <= RESULT
