"""The text of a history, and how a text is read."""

from ordershown.errors import HistoryError, LineError
from ordershown.faults import is_name
from ordershown.histories import history
from ordershown.objects import is_kind, is_operation

RESULT_WORDS = ("ok", "yes", "no", "empty")
DIGITS = 4
MOST_ARGUMENTS = 2


def _line(words):
    return " ".join([str(word) for word in words]) + "\n"


def _words_of_event(event):
    if event[0] == "return":
        return event
    word, client, name, operation, arguments = event
    return word, client, name, operation, *arguments


def format_history(some_history):
    """Return the text of the history."""
    objects, events = some_history
    lines = [_line(("object", name, kind)) for name, kind in objects]
    lines.extend([_line(_words_of_event(event)) for event in events])
    return "".join(lines)


def _lines_of(text):
    lines = text.split("\n")
    if lines[-1] == "":
        return lines[:-1]
    return lines


def _is_number(word):
    return word.isdigit() and len(word) <= DIGITS and str(int(word)) == word


def _read_object(words):
    """Return the pair (name, kind) that the words behind `object` tell, or None."""
    if len(words) != 2 or not is_name(words[0]) or not is_kind(words[1]):
        return None
    return words[0], words[1]


def _read_call(words):
    """Return the event that the words behind `call` tell, or None."""
    if not 3 <= len(words) <= 3 + MOST_ARGUMENTS:
        return None
    client, name, operation, *numbers = words
    if not is_name(client) or not is_name(name) or not is_operation(operation):
        return None
    if not all([_is_number(number) for number in numbers]):
        return None
    return "call", client, name, operation, tuple([int(number) for number in numbers])


def _read_return(words):
    """Return the event that the words behind `return` tell, or None."""
    if len(words) != 2 or not is_name(words[0]):
        return None
    client, result = words
    if _is_number(result):
        return "return", client, int(result)
    if result in RESULT_WORDS:
        return "return", client, result
    return None


READERS = {"object": _read_object, "call": _read_call, "return": _read_return}


def _understood(words):
    """Return what the words of a line tell, or None."""
    if words[0] not in READERS:
        return None
    reader = READERS[words[0]]
    return reader(words[1:])


def _line_at(place, objects):
    """Return the number of the line of a fault at this place, behind so many lines of objects."""
    if place < 0:
        return 0
    return objects + place + 1


def read_history(text):
    """Return the history that a text tells."""
    objects = []
    events = []
    for number, line in enumerate(_lines_of(text), start=1):
        words = line.split(" ")
        told = _understood(words)
        if told is None or (words[0] == "object" and len(events) > 0):
            raise LineError(number, "not understood")
        if words[0] == "object":
            objects.append(told)
        else:
            events.append(told)
    try:
        return history(objects, events)
    except HistoryError as fault:
        raise LineError(_line_at(fault.place, len(objects)), fault.what) from None
