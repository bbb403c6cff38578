"""Turns: how transactions with scripts get them, one after the other, until all have ended."""


class Turns:
    """Gives turns. A class below tells what is done at them, by _step and _finish."""

    def __init__(self, scripts):
        # The steps that are left of each transaction that has not ended.
        self._left = {t: list(script) for t, script in enumerate(scripts, start=1)}

    def _turn(self, t):
        if t not in self._left:
            return
        if len(self._left[t]) > 0:
            self._step(t, self._left[t][0])
        else:
            self._finish(t)

    def give_turns(self, weaving):
        """Give the turns of the weaving, and then turns that go round until all have ended."""
        for t in weaving:
            self._turn(t)
        while len(self._left) > 0:
            for t in list(self._left):
                self._turn(t)
