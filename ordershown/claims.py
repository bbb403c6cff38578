"""Courts: claims about schedules and runs, made and judged."""

from ordershown.conflicts import (
    are_view_equivalent,
    conflict_graph,
    ring_of,
    serial_order,
    serial_schedule,
)
from ordershown.recovery import breaks
from ordershown.runs import locked_run
from ordershown.schedules import transactions_of, without_aborted
from ordershown.snapshots import dependencies, skew

KINDS = ("recoverable", "cascadeless", "strict")


def about_order(schedule):
    """Return the claim that the schedule is serializable, or that it is not."""
    order = serial_order(schedule)
    if order is None:
        return "not serializable", list(schedule), ring_of(schedule)
    return "serializable", list(schedule), order


def about_breaks(schedule):
    """Return the list of the three claims of where the schedule breaks what may be read."""
    return [("breaks", list(schedule), kind, place) for kind, place in zip(KINDS, breaks(schedule))]


def about_run(scripts, weaving):
    """Return the claim of what the locked run tells."""
    schedule, values = locked_run(scripts, weaving)
    return "run", [list(script) for script in scripts], list(weaving), schedule, values


def about_skew(scripts, weaving):
    """Return the claim of the skew of the snapshot run, or None if there is none."""
    ring = skew(scripts, weaving)
    if ring is None:
        return None
    return "skew", [list(script) for script in scripts], list(weaving), ring


def _has_each_once(schedule, order):
    """Return whether the order has all transactions that are not aborted, and no others, each once."""
    return sorted(order) == transactions_of(without_aborted(schedule))


def _is_ring(ring, pairs):
    """Return whether each one of the ring has a pair with the next one, the last one with the first one."""
    if len(ring) < 2 or len(set(ring)) < len(ring):
        return False
    return all([pair in pairs for pair in zip(ring, [*ring[1:], ring[0]])])


def _holds_serializable(schedule, order):
    if not _has_each_once(schedule, order):
        return False
    return all([order.index(t) < order.index(u) for t, u in conflict_graph(schedule)])


def _holds_not_serializable(schedule, ring):
    return _is_ring(ring, conflict_graph(schedule))


def _holds_view(schedule, order):
    if not _has_each_once(schedule, order):
        return False
    kept = without_aborted(schedule)
    return are_view_equivalent(kept, serial_schedule(kept, order))


def _holds_breaks(schedule, kind, place):
    return (kind, place) in list(zip(KINDS, breaks(schedule)))


def _holds_run(scripts, weaving, schedule, values):
    return locked_run(scripts, weaving) == (schedule, values)


def _holds_skew(scripts, weaving, ring):
    return _is_ring(ring, [(t, u) for t, u, _ in dependencies(scripts, weaving)])


COURTS = {
    "serializable": _holds_serializable,
    "not serializable": _holds_not_serializable,
    "view": _holds_view,
    "breaks": _holds_breaks,
    "run": _holds_run,
    "skew": _holds_skew,
}


def judge(claim):
    """Return whether the claim holds."""
    word, *told = claim
    if word not in COURTS:
        return False
    court = COURTS[word]
    return court(*told)


def judge_all(claims):
    """Return the list of the indices of the claims that do not hold."""
    return [place for place, claim in enumerate(claims) if not judge(claim)]
