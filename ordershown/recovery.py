"""What may be read: where a schedule breaks recoverability, cascadelessness and strictness."""


def _writer(ahead, item):
    """Return the writer of an item behind the operations that are ahead, or 0."""
    gone = [operation[1] for operation in ahead if operation[0] == "abort"]
    writers = [
        operation[1] for operation in ahead
        if operation[0] == "write" and operation[2] == item and operation[1] not in gone
    ]
    return writers[-1] if len(writers) > 0 else 0


def _is_open(ahead, t, writer):
    """Return whether the writer is another transaction than t that has not committed behind what is ahead."""
    return writer not in (0, t) and ("commit", writer) not in ahead


def _writer_at(schedule, place):
    """Return the writer, at its place, of the item that the operation there reads or writes."""
    return _writer(schedule[:place], schedule[place][2])


def _is_dirty(schedule, place):
    """Return whether the writer at this place of the item that is read or written there is open."""
    return _is_open(schedule[:place], schedule[place][1], _writer_at(schedule, place))


def _is_early(schedule, place):
    """Return whether the transaction that commits at this place read from one that is open there."""
    ahead = schedule[:place]
    _, t = schedule[place]
    return any([
        _is_open(ahead, t, _writer_at(schedule, earlier))
        for earlier, operation in enumerate(ahead)
        if operation[:2] == ("read", t)
    ])


def _places_of(schedule, words):
    """Return the places of the operations that have one of these words."""
    return [place for place, operation in enumerate(schedule) if operation[0] in words]


def breaks(schedule):
    """Return the first places at which the schedule breaks each of the three, or None for each."""
    found = (
        [place for place in _places_of(schedule, ("commit",)) if _is_early(schedule, place)],
        [place for place in _places_of(schedule, ("read",)) if _is_dirty(schedule, place)],
        [place for place in _places_of(schedule, ("read", "write")) if _is_dirty(schedule, place)],
    )
    return tuple([min(places, default=None) for places in found])
