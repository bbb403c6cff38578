"""Schedules of transactions, and their texts."""

from ordershown.errors import ScheduleError
from ordershown.faults import is_letter
from ordershown.limits import OPERATIONS, TRANSACTIONS

LETTERS = {"read": "r", "write": "w", "commit": "c", "abort": "a"}
WORDS = {"r": "read", "w": "write", "c": "commit", "a": "abort"}
ENDS = ("commit", "abort")


def is_transaction(number):
    """Return whether a transaction has this number."""
    return 1 <= number <= TRANSACTIONS


def _word_of(operation):
    name, t, *items = operation
    return f"{LETTERS[name]}{t}" + "".join([f"({item})" for item in items])


def format_schedule(schedule):
    """Return the text of the schedule."""
    return " ".join([_word_of(operation) for operation in schedule])


def _understood(word):
    """Return the operation that a word tells, or None."""
    name = WORDS.get(word[:1])
    number = word[1:2]
    if name is None or not number.isdigit() or not is_transaction(int(number)):
        return None
    t = int(number)
    if name in ENDS:
        return (name, t) if len(word) == 2 else None
    item = word[3:-1]
    if len(item) != 1 or not is_letter(item):
        return None
    return (name, t, item) if word[2:] == f"({item})" else None


def _words_of(text):
    return text.split(" ") if len(text) > 0 else []


def _fault_of(operation, place, ended):
    """Return what is wrong with what the word at this place tells, or None."""
    if operation is None:
        return "not an operation"
    if operation[1] in ended:
        return "already ended"
    if place >= OPERATIONS:
        return "too many operations"
    return None


def read_schedule(text):
    """Return the schedule that a text tells."""
    schedule = []
    ended = []
    for place, word in enumerate(_words_of(text)):
        operation = _understood(word)
        fault = _fault_of(operation, place, ended)
        if fault is not None:
            raise ScheduleError(place, fault)
        schedule.append(operation)
        if operation[0] in ENDS:
            ended.append(operation[1])
    return schedule


def transactions_of(schedule):
    """Return the list of the transactions of the schedule, ascending."""
    return sorted(set([operation[1] for operation in schedule]))


def without_aborted(schedule):
    """Return the schedule without the operations of aborted transactions."""
    aborted = [operation[1] for operation in schedule if operation[0] == "abort"]
    return [operation for operation in schedule if operation[1] not in aborted]
