"""What one gets to by one operation: the steps of every search for an order."""

from ordershown.histories import operations
from ordershown.objects import first_state, step
from ordershown.orders import ahead_of_each


def done(states, place, kind, operation, arguments):
    """Return the pair (states, result) behind an operation on the object at this place."""
    state, result = step(kind, states[place], operation, arguments)
    return (*states[:place], state, *states[place + 1:]), result


class Moves:
    """The positions of a history by a model, and the ways between them."""

    def __init__(self, some_history, model):
        objects, _ = some_history
        self._objects = objects
        self._told = operations(some_history)
        self._complete = [number for number, told in enumerate(self._told) if told[6] is not None]
        self._ahead = ahead_of_each(some_history, model)
        # Many positions have the same operations placed, and the same choices.
        self._choices = {}

    def first(self):
        """Return the first position."""
        return (), tuple([first_state(kind) for _, kind in self._objects])

    def is_position(self, position):
        """Return whether what is placed are ascending numbers of operations."""
        placed, _ = position
        if list(placed) != sorted(set(placed)):
            return False
        return all([0 <= number < len(self._told) for number in placed])

    def is_whole(self, position):
        """Return whether all complete operations are placed."""
        placed, _ = position
        return all([number in placed for number in self._complete])

    def _choice(self, number, placed):
        """Return an operation as steps_from needs it, with what is placed behind it."""
        _, name, operation, arguments, result, _, _ = self._told[number]
        place = [pair[0] for pair in self._objects].index(name)
        kind = self._objects[place][1]
        return number, tuple(sorted([*placed, number])), place, kind, operation, arguments, result

    def _choices_at(self, placed):
        """Return a choice for each operation that is not placed and has all that is ahead of it placed."""
        return [
            self._choice(number, placed)
            for number, ahead in enumerate(self._ahead)
            if number not in placed and all([earlier in placed for earlier in ahead])
        ]

    def steps_from(self, position):
        """Return the pairs (number, position) of all that one gets to by one operation, by its number."""
        placed, states = position
        if placed not in self._choices:
            self._choices[placed] = self._choices_at(placed)
        found = []
        for number, after, place, kind, operation, arguments, result in self._choices[placed]:
            behind, got = done(states, place, kind, operation, arguments)
            if result is None or got == result:
                found.append((number, (after, behind)))
        return found
