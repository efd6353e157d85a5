"""Trials: what an object holds changes in a `with` statement, and is as it was behind it.

The end of a statement may do little: it reaches only the trial itself and one object that the trial knows. So the rows
that an object holds lie in a layer, and a trial lays another one upon it: what changes in the statement changes in the
upper layer, and the lower one has kept what comes back.
"""


class Layer:
    """A list of rows, and while a trial goes on that began here, the layer that this trial laid upon it."""

    def __init__(self, rows):
        # A list that is replaced, never changed: so who iterates over it goes on with what was there.
        self._rows = rows
        # These rows, or the upper layer: so __iter__ need not look for the uppermost one, which it may not.
        self._now = rows
        self._ahead = None

    def __iter__(self):
        return iter(self._now)


def top_of(layer):
    """The uppermost layer upon a layer; the layer itself if there is none upon it."""
    top = layer
    while isinstance(top._now, Layer):
        top = top._now
    return top


def rows_of(layer):
    """The list of the rows that are there at present."""
    top = top_of(layer)
    return list(top._rows)


def put_rows(layer, rows):
    """Puts a list in the place of the rows that are there at present."""
    top = top_of(layer)
    top._rows = rows
    top._now = rows


class Trial:
    """A context manager that gives an object, and brings back what it held.

    The object has its lowest layer in its attribute `_layer`; its method `_rows_with(rows)` tells which rows it holds
    in the statement. Trials can stand within one another, one trial within itself, too.
    """

    def __init__(self, holder, rows):
        self._holder = holder
        self._rows = rows
        self._lower = None

    def __enter__(self):
        holder = self._holder
        # Ahead of all else: if these rows are refused by an error, nothing has changed.
        upper = Layer(holder._rows_with(self._rows))
        lower = top_of(holder._layer)
        lower._now = upper
        # If this trial stands within itself, its outer statement needs the layer on which that one began.
        lower._ahead = self._lower
        self._lower = lower
        return holder

    def __exit__(self, kind, value, trace):
        lower = self._lower
        lower._now = lower._rows
        self._lower = lower._ahead
