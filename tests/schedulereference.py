"""Conflicts, views, breaks and locks straight from their definitions, slow and plain, to compare the program with."""

from itertools import permutations


def small_schedules(transactions, words, items, many):
    """All schedules of at most so many operations of these transactions, words and items."""
    steps = [word for word in words if word in ("read", "write")]
    ends = [word for word in words if word in ("commit", "abort")]
    operations = [(word, t, item) for word in steps for t in transactions for item in items]
    operations += [(word, t) for word in ends for t in transactions]
    found = [[]]
    latest = [[]]
    for _ in range(many):
        latest = [
            [*schedule, operation] for schedule in latest for operation in operations
            if not {("commit", operation[1]), ("abort", operation[1])} & set(schedule)
        ]
        found += latest
    return found


def kept_of(schedule):
    return [operation for operation in schedule if ("abort", operation[1]) not in schedule]


def numbers_of(schedule):
    return sorted({operation[1] for operation in kept_of(schedule)})


def do_conflict(one, two):
    if len(one) == 2 or len(two) == 2:
        return False
    return one[1] != two[1] and one[2] == two[2] and (one[0] == "write" or two[0] == "write")


def graph(schedule):
    kept = kept_of(schedule)
    found = set()
    for place in range(len(kept)):
        for later in range(place + 1, len(kept)):
            if do_conflict(kept[place], kept[later]):
                found.add((kept[place][1], kept[later][1]))
    return sorted(found)


def order_of(numbers, pairs):
    """Of the orders that keep all pairs the first one: it takes the least number each time."""
    for order in permutations(sorted(numbers)):
        if all(order.index(one) < order.index(two) for one, two in pairs):
            return list(order)
    return None


def is_ring(row, pairs):
    return all((one, two) in pairs for one, two in zip(row, [*row[1:], row[0]]))


def ring_in(pairs):
    numbers = sorted({number for pair in pairs for number in pair})
    for many in range(2, len(numbers) + 1):
        for row in permutations(numbers, many):
            if is_ring(row, pairs):
                return list(row)
    return None


def serial_schedule(schedule, order):
    found = []
    for t in order:
        found += [operation for operation in schedule if operation[1] == t]
    return found


def numbered(schedule):
    return [(operation, schedule[:place].count(operation)) for place, operation in enumerate(schedule)]


def are_conflict_equivalent(schedule, other):
    ones, others = numbered(schedule), numbered(other)
    for one in ones:
        for two in ones:
            if do_conflict(one[0], two[0]):
                if (ones.index(one) < ones.index(two)) != (others.index(one) < others.index(two)):
                    return False
    return True


def last_writer(ahead, item):
    for word, t, *items in reversed(ahead):
        if word == "write" and items == [item]:
            return t
    return 0


def view(schedule):
    kept = kept_of(schedule)
    reads = []
    for t in numbers_of(schedule):
        for place, operation in enumerate(kept):
            if operation[0] == "read" and operation[1] == t:
                reads.append((t, operation[2], last_writer(kept[:place], operation[2])))
    items = sorted({operation[2] for operation in kept if operation[0] == "write"})
    return reads, [(item, last_writer(kept, item)) for item in items]


def rows_of(schedule):
    return {t: [told for told in kept_of(schedule) if told[1] == t] for t in numbers_of(schedule)}


def are_view_equivalent(schedule, other):
    return rows_of(schedule) == rows_of(other) and view(schedule) == view(other)


def view_order(schedule):
    for order in permutations(numbers_of(schedule)):
        if are_view_equivalent(serial_schedule(kept_of(schedule), order), schedule):
            return list(order)
    return None


def writer(schedule, place, item):
    ahead = schedule[:place]
    return last_writer([told for told in ahead if ("abort", told[1]) not in ahead], item)


def is_dirty(schedule, place, other, t):
    return other != 0 and other != t and ("commit", other) not in schedule[:place]


def breaks_recoverability(schedule, place):
    told = schedule[place]
    if told[0] != "commit":
        return False
    for earlier in range(place):
        if schedule[earlier][0] == "read" and schedule[earlier][1] == told[1]:
            if is_dirty(schedule, place, writer(schedule, earlier, schedule[earlier][2]), told[1]):
                return True
    return False


def breaks_at(schedule, place, words):
    told = schedule[place]
    return told[0] in words and is_dirty(schedule, place, writer(schedule, place, told[2]), told[1])


def breaks(schedule):
    places = range(len(schedule))
    return (
        next((place for place in places if breaks_recoverability(schedule, place)), None),
        next((place for place in places if breaks_at(schedule, place, ["read"])), None),
        next((place for place in places if breaks_at(schedule, place, ["read", "write"])), None),
    )


class Locks:
    """A lock table of one dict of holders and one list for each item."""

    def __init__(self, items):
        self.held = {item: {} for item in items}
        self.queues = {item: [] for item in items}

    def waiting(self, t):
        for item, queue in self.queues.items():
            for other, mode in queue:
                if other == t:
                    return item, mode
        return None

    def hinders(self, item, t, mode):
        others = [theirs for other, theirs in self.held[item].items() if other != t]
        return others != [] and not (mode == "shared" and set(others) == {"shared"})

    def ask(self, t, item, mode):
        if self.waiting(t) is not None:
            return "refused"
        own = self.held[item].get(t)
        if own == "exclusive" or own == mode:
            return "held"
        free = self.queues[item] == [] or own == "shared"
        if free and not self.hinders(item, t, mode):
            self.held[item][t] = mode
            return "granted"
        place = len(self.queues[item])
        if own == "shared":
            # The upgrades in the queue are those whose transactions hold the item.
            place = sum(1 for other, _ in self.queues[item] if other in self.held[item])
        self.queues[item].insert(place, (t, mode))
        return "waits"

    def release(self, t):
        granted = []
        for item in self.held:
            self.held[item].pop(t, None)
            self.queues[item] = [pair for pair in self.queues[item] if pair[0] != t]
        for item in sorted(self.held):
            while self.queues[item]:
                other, mode = self.queues[item][0]
                if self.hinders(item, other, mode):
                    break
                self.queues[item].pop(0)
                self.held[item][other] = mode
                granted.append(other)
        return granted

    def pairs(self):
        found = set()
        for item, queue in self.queues.items():
            for place, (t, mode) in enumerate(queue):
                for other, theirs in list(self.held[item].items()) + queue[:place]:
                    if other != t and "exclusive" in (mode, theirs):
                        found.add((t, other))
        return sorted(found)
