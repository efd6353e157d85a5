"""Curves: what drop belongs to each flow, and what flow to each drop."""

from surepipes.amounts import Amount, amount_of, is_amount
from surepipes.errors import InvalidAmount, InvalidPoints, TooMany

FLOW = 0
DROP = 1
MOST_POINTS = 80


def _is_point(value):
    """Whether any value is a tuple of two amounts that are both above 0, both below 0, or both 0."""
    if not isinstance(value, tuple) or len(value) != 2:
        return False
    if not is_amount(value[FLOW]) or not is_amount(value[DROP]):
        return False
    return amount_of(value[FLOW]).sign == amount_of(value[DROP]).sign


def _is_origin(value):
    return _is_point(value) and amount_of(value[FLOW]).sign == 0


def _checked(points):
    """The points as tuples of Amounts; raises what is listed for points that are wrong."""
    if not isinstance(points, (list, tuple)) or all([_is_origin(point) for point in points]):
        raise InvalidPoints(None)
    rows = []
    for position, point in enumerate(points):
        if not _is_point(point):
            raise InvalidPoints(position)
        row = (amount_of(point[FLOW]), amount_of(point[DROP]))
        if position > 0 and not _rises(rows[-1], row):
            raise InvalidPoints(position)
        rows.append(row)
    if len(rows) > MOST_POINTS:
        raise TooMany("points", MOST_POINTS)
    return rows


def _rises(low, high):
    return low[FLOW] < high[FLOW] and low[DROP] < high[DROP]


def _with_origin(rows):
    below = [row for row in rows if row[FLOW].sign < 0]
    above = [row for row in rows if row[FLOW].sign > 0]
    return [*below, (Amount(0), Amount(0)), *above]


def _piece(points, side, amount):
    """The position of the point at which the piece begins that tells about an amount on this side.

    An amount beyond the first or the last point belongs to the first or the last piece.
    """
    first = 0
    last = len(points) - 2
    while first < last:
        middle = (first + last + 1) // 2
        if points[middle][side] <= amount:
            first = middle
        else:
            last = middle - 1
    return first


def _across(points, side, amount):
    """What the line has on the other side, where it has this amount on this side (FLOW or DROP)."""
    start = _piece(points, side, amount)
    low = points[start]
    high = points[start + 1]
    share = (amount - low[side]).over(high[side] - low[side])
    return low[1 - side] + (high[1 - side] - low[1 - side]) * share


def _merged(one, other):
    """The amounts of two ascending lists, ascending, each once."""
    found = []
    taken = 0
    for amount in one:
        while taken < len(other) and other[taken] < amount:
            found.append(other[taken])
            taken = taken + 1
        if taken < len(other) and other[taken] == amount:
            taken = taken + 1
        found.append(amount)
    return [*found, *other[taken:]]


def _added(one, other, side):
    """The points of the line that has, for each amount on this side, the sum of what two lines have on the other."""
    amounts = _merged([point[side] for point in one], [point[side] for point in other])
    sums = [_across(one, side, amount) + _across(other, side, amount) for amount in amounts]
    if side == FLOW:
        return list(zip(amounts, sums))
    return list(zip(sums, amounts))


def _drop_for_one(low, high):
    """How much the drop grows between two points for each 1 by which the flow grows."""
    return (high[DROP] - low[DROP]).over(high[FLOW] - low[FLOW])


def _bends(points):
    """The points at which the line is not straight."""
    steep = [_drop_for_one(points[at], points[at + 1]) for at in range(len(points) - 1)]
    return [points[at] for at in range(1, len(steep)) if steep[at - 1] != steep[at]]


def _form(points):
    """What is the same for all points of which the line is the same: how it begins, bends and ends."""
    return [_drop_for_one(points[0], points[1]), _bends(points), _drop_for_one(points[-2], points[-1])]


def _curve_through(points):
    """The Curve with these points, (0, 0) among them, even if they are more than the constructor takes."""
    curve = Curve([(1, 1)])
    curve._points = points
    return curve


class Curve:
    """A strictly rising line through (0, 0), straight between its points and beyond them."""

    def __init__(self, points):
        self._points = _with_origin(_checked(points))

    def __call__(self, flow):
        return _across(self._points, FLOW, amount_of(flow))

    def back(self, drop):
        """The flow that has this drop."""
        return _across(self._points, DROP, amount_of(drop))

    def points(self):
        """The points as tuples of Amounts (flow, drop), ascending, with (0, 0)."""
        return list(self._points)

    def corners(self):
        """The flows at which the curve is not straight, ascending."""
        return [point[FLOW] for point in _bends(self._points)]

    @property
    def is_straight(self):
        """Whether there is no corner."""
        return len(_bends(self._points)) == 0

    @property
    def conductance(self):
        """The flow divided by the drop; None unless the curve is straight."""
        if not self.is_straight:
            return None
        return Amount(1).over(_drop_for_one(self._points[0], self._points[1]))

    def turned(self):
        """The Curve with the drop -d for the flow -f where this one has the drop d for the flow f."""
        rows = [(-point[FLOW], -point[DROP]) for point in self._points]
        return _curve_through(rows[::-1])

    def __add__(self, other):
        if not isinstance(other, Curve):
            return NotImplemented
        return _curve_through(_added(self._points, other._points, FLOW))

    def __or__(self, other):
        if not isinstance(other, Curve):
            return NotImplemented
        return _curve_through(_added(self._points, other._points, DROP))

    def __eq__(self, other):
        return isinstance(other, Curve) and _form(self._points) == _form(other._points)

    @staticmethod
    def straight(conductance):
        """The straight Curve with this conductance."""
        if not is_amount(conductance) or amount_of(conductance).sign != 1:
            raise InvalidAmount(conductance)
        return Curve([(conductance, 1)])
