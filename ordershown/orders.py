"""What is ahead of what by the two models, rows of operations, and orders."""

from ordershown.histories import operations
from ordershown.objects import first_state, step


def _comes_first(model, one, other):
    """Return whether the first of two told operations is ahead of the other one."""
    if model == "real":
        return one[6] is not None and one[6] < other[5]
    return one[0] == other[0] and one[5] < other[5]


def is_ahead(some_history, model, number, other):
    """Return whether the operation with the first number is ahead of that with the other one."""
    told = operations(some_history)
    return _comes_first(model, told[number], told[other])


def ahead_of_each(some_history, model):
    """Return, for each operation, the list of the numbers of those ahead of it."""
    told = operations(some_history)
    return [
        [number for number, one in enumerate(told) if _comes_first(model, one, other)]
        for other in told
    ]


def results(some_history, row):
    """Return the list of the results that the operations get when they are done as the row tells."""
    objects, _ = some_history
    kinds = dict(objects)
    states = {name: first_state(kind) for name, kind in objects}
    told = operations(some_history)
    got = []
    for number in row:
        _, name, operation, arguments, _, _, _ = told[number]
        states[name], result = step(kinds[name], states[name], operation, arguments)
        got.append(result)
    return got


def _is_row(some_history, model, row):
    ahead = ahead_of_each(some_history, model)
    placed = {}
    for number in row:
        # A number below 0 would be taken for one that is counted from the end.
        if not 0 <= number < len(ahead) or number in placed:
            return False
        if not all([earlier in placed for earlier in ahead[number]]):
            return False
        placed[number] = True
    return True


def _is_legal(some_history, row):
    told = [operation[4] for operation in operations(some_history)]
    got = results(some_history, row)
    return all([told[number] in (None, result) for number, result in zip(row, got)])


def is_order(some_history, model, row):
    """Return whether the row is an order of the history by the model."""
    if not _is_row(some_history, model, row) or not _is_legal(some_history, row):
        return False
    told = operations(some_history)
    return all([number in row for number, operation in enumerate(told) if operation[6] is not None])
