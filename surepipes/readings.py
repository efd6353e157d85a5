"""Readings of a held net: which heights are known to be higher than others, and which orders keep them."""

from surepipes.amounts import ascending
from surepipes.checks import check_node, checked_poles, is_node, is_order_of
from surepipes.drains import held_fault
from surepipes.errors import Barred, InvalidReading, InvalidWord, TooMany, UnknownNode, UnknownReading
from surepipes.orders import Order
from surepipes.steps import Steps
from surepipes.trials import Layer, Trial, put_rows, rows_of

MOST_READINGS = 16
WORDS = (">", "=", ">=")
ANSWERS = ("above", "level", "below")


def is_word(value):
    """Whether any value is one of the words of readings."""
    return isinstance(value, str) and value in WORDS


def _is_reading(net, value):
    """Whether any value is a reading of the net."""
    if not isinstance(value, tuple) or len(value) != 3:
        return False
    return is_node(net, value[0]) and is_word(value[1]) and is_node(net, value[2])


def _is_pair(value):
    return isinstance(value, tuple) and len(value) == 2


def _placed(rows, reading):
    """The readings with a further one, in the place of one for the same nodes."""
    u, _, v = reading
    found = [reading if (row[0], row[2]) == (u, v) else row for row in rows]
    if reading not in found:
        found.append(reading)
    return found


def answer_row(u, answer, v):
    """The reading that tells an answer about u and v."""
    if answer == "below":
        return (v, ">", u)
    return (u, ">" if answer == "above" else "=", v)


def is_kept(order, reading):
    """Whether a reading is true in an order."""
    u, word, v = reading
    if word == ">":
        return order[u] < order[v]
    if word == "=":
        return order[u] == order[v]
    return order[u] <= order[v]


class Readings:
    """The readings of a held net, in the sequence in which they were set."""

    def __init__(self, net, poles):
        self._poles = checked_poles(net, poles)
        self._net = net
        self._layer = Layer([])

    @property
    def net(self):
        """The net."""
        return self._net

    @property
    def poles(self):
        """The dict from the poles to their heights."""
        return dict(self._poles)

    def rows(self):
        """The list of the readings, in their sequence."""
        return rows_of(self._layer)

    def __iter__(self):
        return iter(self._layer)

    def __len__(self):
        return len(rows_of(self._layer))

    def __contains__(self, value):
        return _is_reading(self._net, value) and value in rows_of(self._layer)

    def _word_for(self, u, v):
        """The word of the reading for two values; None if there is none."""
        if not is_node(self._net, u) or not is_node(self._net, v):
            return None
        found = [word for one, word, other in rows_of(self._layer) if (one, other) == (u, v)]
        return found[0] if found else None

    def __getitem__(self, at):
        word = self._word_for(at[0], at[1]) if _is_pair(at) else None
        if word is None:
            raise UnknownReading(at)
        return word

    def __setitem__(self, at, worth):
        if not _is_pair(at):
            raise UnknownNode(at)
        u, v = at
        check_node(self._net, u)
        check_node(self._net, v)
        if not is_word(worth):
            raise InvalidWord(worth)
        self._set_all([(u, worth, v)])

    def __iadd__(self, other):
        self._set_all(other)
        return self

    def _rows_with(self, rows):
        """The list of the readings if those of a list of tuples were set, too."""
        if not isinstance(rows, (list, tuple)):
            raise InvalidReading(None)
        for position, row in enumerate(rows):
            if not _is_reading(self._net, row):
                raise InvalidReading(position)
        found = rows_of(self._layer)
        for row in rows:
            found = _placed(found, row)
        if len(found) > MOST_READINGS:
            raise TooMany("readings", MOST_READINGS)
        return found

    def _set_all(self, rows):
        put_rows(self._layer, self._rows_with(rows))

    def drop(self, u, v):
        """Takes the reading for two nodes away, and returns its word."""
        word = self._word_for(u, v)
        if word is None:
            raise UnknownReading((u, v))
        put_rows(self._layer, [row for row in rows_of(self._layer) if (row[0], row[2]) != (u, v)])
        return word

    def copy(self):
        """Another object with the same readings."""
        return readings_of(self._net, self._poles, rows_of(self._layer))

    def tried(self, *rows):
        """A context manager in whose statement these readings are set, too."""
        return Trial(self, rows)

    def tried_by(self, rows, deed):
        """What deed(readings) returns while these readings are set, too."""
        with Trial(self, rows) as readings:
            return deed(readings)

    def _steps(self, *more):
        """The steps that are allowed with these readings more."""
        rows = rows_of(self._layer)
        return Steps(self._net, self._poles, [*rows, *more])

    def _come(self, *more):
        """Whether some order keeps the readings and these more."""
        return self._steps(*more).are_possible()

    def an_order(self):
        """An Order that keeps the readings; None if they are barred."""
        levels = self._steps().levels()
        return None if levels is None else Order(levels)

    def closed_list(self):
        """A closed list, which shows that the readings are barred; None if they are possible."""
        return self._steps().closed_list()

    def keeps(self, value):
        """Whether any value is an Order that keeps the readings."""
        if not is_order_of(self._net, value) or held_fault(self._net, self._poles, value) is not None:
            return False
        return all([is_kept(value, row) for row in rows_of(self._layer)])

    def is_closed_list(self, value):
        """Whether any value is a closed list."""
        return self._steps().is_closed_list(value)

    def is_possible(self):
        """Whether some order keeps the readings."""
        return self._come()

    def _check_possible(self):
        if not self._come():
            raise Barred()

    def comes(self, u, v):
        """The tuple of those of "above", "level", "below" that come for two nodes."""
        check_node(self._net, u)
        check_node(self._net, v)
        self._check_possible()
        return tuple([answer for answer in ANSWERS if self._come(answer_row(u, answer, v))])

    def order_with(self, u, answer, v):
        """An Order that keeps the readings, in which this answer comes for two nodes; None if there is none."""
        check_node(self._net, u)
        if not isinstance(answer, str) or answer not in ANSWERS:
            raise InvalidWord(answer)
        check_node(self._net, v)
        levels = self._steps(answer_row(u, answer, v)).levels()
        return None if levels is None else Order(levels)

    def places(self, node):
        """The list of the places that the height of a node can have, from the top down."""
        check_node(self._net, node)
        self._check_possible()
        heights = ascending([self._poles[pole] for pole in self._poles])[::-1]
        found = []
        for position, height in enumerate(heights):
            pole = self._pole_at(height)
            if self._come((node, "=", pole)):
                found.append(("at", height))
            for low in heights[position + 1:position + 2]:
                if self._come((pole, ">", node), (node, ">", self._pole_at(low))):
                    found.append(("between", height, low))
        return found

    def _pole_at(self, height):
        """The first pole that has this height."""
        poles = [pole for pole in self._poles if self._poles[pole] == height]
        return poles[0]

    def needed(self):
        """Readings of these that are barred, and possible without any one of them; None if these are possible."""
        if self._come():
            return None
        rows = rows_of(self._layer)
        found = rows
        for row in rows:
            less = [other for other in found if other != row]
            if not Steps(self._net, self._poles, less).are_possible():
                found = less
        return found


def readings_of(net, poles, rows):
    """Readings with these rows."""
    found = Readings(net, poles)
    found._set_all(rows)
    return found
