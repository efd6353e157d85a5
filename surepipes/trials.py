"""Trials: what an object holds changes in a `with` statement, and is as it was behind it."""


class Kept:
    """What an object held, and what was kept ahead of it."""

    def __init__(self, held, ahead):
        self._held = held
        self._ahead = ahead


class Trial:
    """A context manager that gives an object, and brings back what it held.

    The object keeps all that can change in its attribute `_now`, as a value that is replaced and never changed itself;
    its method `_begin(rows)` does what is tried. Trials can stand within one another, one trial within itself, too.
    """

    def __init__(self, holder, rows):
        self._holder = holder
        self._rows = rows
        self._kept = None
        self._before = None

    def __enter__(self):
        holder = self._holder
        before = holder._now
        holder._begin(self._rows)
        # Not ahead of this: if an error ended `_begin`, nothing is to be brought back.
        self._kept = Kept(before, self._kept)
        return holder

    def __exit__(self, kind, value, trace):
        self._take()
        holder = self._holder
        holder._now = self._before

    def _take(self):
        kept = self._kept
        self._before = kept._held
        self._kept = kept._ahead
