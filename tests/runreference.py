"""Runs straight from their definitions, slow and plain, to compare the program with, and small scripts for them."""

from itertools import product

import schedulereference

ITEMS = "abcdefghijklmnopqrstuvwxyz"


def small_scripts(many, items="xy", steps=2):
    """All lists of so many scripts of at most so many steps; each transaction writes numbers of its own."""
    kinds = [[("read", item) for item in items] + [("write", item, t) for item in items] for t in range(1, many + 1)]
    scripts = [
        [list(script) for length in range(steps + 1) for script in product(own, repeat=length)] for own in kinds
    ]
    return [list(row) for row in product(*scripts)]


def weavings(many, length):
    """All weavings of this length."""
    return [list(row) for row in product(range(1, many + 1), repeat=length)]


def told_values(values):
    return sorted((item, value) for item, value in values.items() if value != 0)


class Turns:
    """Gives turns, by a method turn, until all have ended."""

    def __init__(self, scripts):
        self.scripts = scripts
        self.numbers = list(range(1, len(scripts) + 1))
        self.made = {t: 0 for t in self.numbers}
        self.ended = set()
        self.events = []

    def go(self, weaving):
        for t in weaving:
            if t in self.numbers and t not in self.ended:
                self.turn(t)
        while len(self.ended) < len(self.numbers):
            for t in self.numbers:
                if t not in self.ended:
                    self.turn(t)

    def next_step(self, t):
        return self.scripts[t - 1][self.made[t]] if self.made[t] < len(self.scripts[t - 1]) else None


class Locked(Turns):
    """The values are what the writes left that were not taken back."""

    def __init__(self, scripts):
        super().__init__(scripts)
        self.locks = schedulereference.Locks(ITEMS)
        self.writes = []
        self.sums = {t: 0 for t in self.numbers}

    def value(self, item):
        values = [value for _, other, value in self.writes if other == item]
        return values[-1] if values else 0

    def values(self):
        return told_values({item: self.value(item) for item in ITEMS})

    def end(self, t, word):
        self.events.append((word, t))
        self.ended.add(t)
        if word == "abort":
            self.writes = [told for told in self.writes if told[0] != t]
        self.locks.release(t)

    def turn(self, t):
        step = self.next_step(t)
        if self.locks.waiting(t) is not None:
            return
        if step is None:
            self.end(t, "commit")
            return
        if self.locks.ask(t, step[1], {"read": "shared", "write": "exclusive"}[step[0]]) != "waits":
            self.make(t, step)
            return
        while schedulereference.ring_in(self.locks.pairs()) is not None:
            self.end(max(schedulereference.ring_in(self.locks.pairs())), "abort")

    def make(self, t, step):
        self.events.append((step[0], t, step[1]))
        self.made[t] += 1
        if step[0] == "read":
            self.sums[t] += self.value(step[1])
        else:
            self.writes.append((t, step[1], self.sums[t] + step[2]))


def locked_run(scripts, weaving):
    run = Locked(scripts)
    run.go(weaving)
    return run.events, run.values()


def serial_run(scripts, order):
    values = {}
    for t in order:
        total = 0
        for word, item, *number in scripts[t - 1]:
            if word == "read":
                total += values.get(item, 0)
            else:
                values[item] = total + number[0]
    return told_values(values)


class Snapshots(Turns):
    """Keeps all versions: for each commit its place among the events, its transaction and what it wrote."""

    def __init__(self, scripts):
        super().__init__(scripts)
        self.versions = []
        self.began = {}
        self.reads = []

    def version(self, item, place):
        """The pair (transaction, value) of an item behind the last commit ahead of a place."""
        told = [(t, wrote[item]) for end, t, wrote in self.versions if end < place and item in wrote]
        return told[-1] if told else (0, 0)

    def replay(self, t):
        """What the transaction has read and written so far: (sum, what it wrote last, what it read from whom)."""
        total, wrote, read = 0, {}, []
        for word, item, *number in self.scripts[t - 1][:self.made[t]]:
            if word == "write":
                wrote[item] = total + number[0]
            elif item in wrote:
                total += wrote[item]
            else:
                writer, value = self.version(item, self.began[t])
                read.append((item, writer))
                total += value
        return total, wrote, read

    def turn(self, t):
        place = len(self.events)
        self.began.setdefault(t, place)
        step = self.next_step(t)
        if step is not None:
            self.made[t] += 1
            self.events.append((step[0], t, step[1]))
            return
        _, wrote, _ = self.replay(t)
        self.ended.add(t)
        since = [item for end, _, theirs in self.versions if end > self.began[t] for item in theirs]
        if set(since) & set(wrote):
            self.events.append(("abort", t))
        else:
            self.events.append(("commit", t))
            self.versions.append((place, t, wrote))

    def values(self):
        return told_values({item: self.version(item, len(self.events))[1] for item in ITEMS})

    def dependencies(self):
        found = set()
        ends = {t: end for end, t, _ in self.versions}
        written = {t: set(wrote) for _, t, wrote in self.versions}
        for t in ends:
            _, _, read = self.replay(t)
            for item, writer in read:
                if writer != 0:
                    found.add((writer, t, "read"))
                for u in ends:
                    if u != t and item in written[u] and ends[u] > self.began[t]:
                        found.add((t, u, "miss"))
            for u in ends:
                if ends[t] < ends[u] and written[t] & written[u]:
                    found.add((t, u, "write"))
        return sorted(found)


def snapshots_of(scripts, weaving):
    run = Snapshots(scripts)
    run.go(weaving)
    return run
