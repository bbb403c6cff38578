"""Orders, rows and tables straight from their definitions, slow and plain, to compare the program with."""

from itertools import permutations

from ordershown.histories import operations
from ordershown.objects import first_state, step

# Results that the histories of small_histories tell, for each operation.
SMALL = {
    "register": [("write", (1,), ["ok"]), ("read", (), [0, 1])],
    "counter": [("add", (1,), ["ok"]), ("get", (), [0, 1])],
    "set": [("insert", (1,), ["yes", "no"]), ("remove", (1,), ["yes", "no"])],
    "queue": [("put", (1,), ["ok"]), ("take", (), [1, "empty"])],
}


def is_ahead(some_history, model, number, other):
    one = operations(some_history)[number]
    two = operations(some_history)[other]
    if model == "client":
        return one[0] == two[0] and one[5] < two[5]
    return one[6] is not None and one[6] < two[5]


def run(some_history, row):
    """The results of a row, and the states behind it."""
    kinds = dict(some_history[0])
    states = {name: first_state(kind) for name, kind in some_history[0]}
    got = []
    for number in row:
        told = operations(some_history)[number]
        states[told[1]], result = step(kinds[told[1]], states[told[1]], told[2], told[3])
        got.append(result)
    return got, tuple(states[name] for name, _ in some_history[0])


def is_legal_row(some_history, model, row):
    told = operations(some_history)
    for at, number in enumerate(row):
        for other in range(len(told)):
            if is_ahead(some_history, model, other, number) and other not in row[:at]:
                return False
    got, _ = run(some_history, row)
    return all(told[number][6] is None or told[number][4] == result for number, result in zip(row, got))


def legal_rows(some_history, model):
    numbers = range(len(operations(some_history)))
    rows = [row for many in range(len(numbers) + 1) for row in permutations(numbers, many)]
    return [row for row in rows if is_legal_row(some_history, model, row)]


def orders(some_history, model):
    complete = {number for number, told in enumerate(operations(some_history)) if told[6] is not None}
    return [row for row in legal_rows(some_history, model) if complete <= set(row)]


def told_order(some_history, model):
    found = set(orders(some_history, model))
    short = [row for row in found if not any(row[:many] in found for many in range(len(row)))]
    return min(short, default=None)


def told_table(some_history, model):
    rows = legal_rows(some_history, model)
    return tuple(sorted({(tuple(sorted(row)), run(some_history, row)[1]) for row in rows}))


def _small_events(objects, clients, calls, many):
    """All lists of events of these clients, at most so many calls and so many events in all."""
    found = [[]]
    latest = [([], {})]
    for _ in range(many):
        longer = []
        for events, pending in latest:
            done = sum(1 for event in events if event[0] == "call")
            for client in clients:
                if client in pending:
                    left = {other: pending[other] for other in pending if other != client}
                    longer += [(events + [("return", client, told)], left) for told in pending[client]]
                elif done < calls:
                    for name, kind in objects:
                        for operation, arguments, told in SMALL[kind]:
                            event = ("call", client, name, operation, arguments)
                            longer.append((events + [event], {**pending, client: told}))
        latest = longer
        found += [events for events, _ in latest]
    return found


def small_histories(objects, clients="ab", calls=3, many=6):
    """All histories of these objects that are so small."""
    return [(tuple(objects), tuple(events)) for events in _small_events(objects, clients, calls, many)]
