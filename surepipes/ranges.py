"""Between which amounts the flow of a pipe lies, and curves by which it is one of them."""

from surepipes.amounts import Amount, amount_of, ascending, is_amount
from surepipes.checks import are_conductances, check_pipe, checked_demands
from surepipes.errors import InvalidAmount
from surepipes.levelling import GROWTH, even, fed_level, ground, pipes_inside, with_strong
from surepipes.solving import heights_by, resistance
from surepipes.states import fed_state
from surepipes.sums import cut_towards, sums_of_cuts


class Stretch:
    """The amounts between two ends, without these; or one amount alone, if both ends are equal."""

    def __init__(self, low, high):
        self._low = amount_of(low)
        self._high = amount_of(high)
        if self._high < self._low:
            raise InvalidAmount(high)

    @property
    def low(self):
        """The lower end."""
        return self._low

    @property
    def high(self):
        """The higher end."""
        return self._high

    @property
    def is_single(self):
        """Whether both ends are equal."""
        return self._low == self._high

    def __contains__(self, value):
        if not is_amount(value):
            return False
        amount = amount_of(value)
        if self.is_single:
            return amount == self._low
        return self._low < amount and amount < self._high

    def __eq__(self, other):
        return isinstance(other, Stretch) and self._low == other._low and self._high == other._high

    def __str__(self):
        if self.is_single:
            return f"[{self._low}]"
        return f"({self._low}, {self._high})"

    def __repr__(self):
        return f"Stretch({self._low!r}, {self._high!r})"

    def plus(self, other):
        """The Stretch from the sum of both lows to the sum of both highs."""
        return Stretch(self._low + other._low, self._high + other._high)

    def turned(self):
        """The Stretch from -high to -low."""
        return Stretch(-self._high, -self._low)


def _cut_sums(net, demands, pipe):
    tail, head = net[pipe]
    sums = sums_of_cuts(net, demands, tail, head)
    if not net.is_bridge(pipe):
        sums.append(Amount(0))
    return ascending(sums)


def _flow_stretch(net, demands, pipe):
    sums = _cut_sums(net, demands, pipe)
    return Stretch(sums[0], sums[-1])


def cut_sums(net, demands, pipe):
    """The list N(e) of a pipe: the sums of the demands in its cuts, and 0 unless it is a bridge; ascending."""
    inputs = checked_demands(net, demands)
    check_pipe(net, pipe)
    return _cut_sums(net, inputs, pipe)


def flow_stretch(net, demands, pipe):
    """The Stretch of all amounts that the flow of a pipe takes."""
    inputs = checked_demands(net, demands)
    check_pipe(net, pipe)
    return _flow_stretch(net, inputs, pipe)


def _with_flow(net, demands, pipe, amount):
    """Conductances by which a pipe has a flow that is not 0.

    If the pipes inside of both parts of a cut are wide, and this pipe becomes wider and wider, it takes nearly the
    whole sum of the cut. So they are made wide enough for it to take more than the amount, and then it is fitted.
    """
    tail, head = net[pipe]
    strong = pipes_inside(net, cut_towards(net, demands, tail, head, amount.sign))
    fixed = ground(net)
    size = Amount(1)
    while True:
        found = with_strong(net, strong, size)
        heights = heights_by(net, found, fixed, demands)
        against = resistance(net, found, fixed, pipe)
        rest = heights[tail] - heights[head] - amount * against
        if rest.sign == amount.sign:
            return {**found, pipe: (amount * (1 - against)).over(rest)}
        size = size * GROWTH


def conductances_for(net, demands, pipe, amount):
    """Conductances by which the flow of a pipe is an amount; None if it never is."""
    inputs = checked_demands(net, demands)
    check_pipe(net, pipe)
    wanted = amount_of(amount)
    stretch = _flow_stretch(net, inputs, pipe)
    if wanted not in stretch:
        return None
    if stretch.is_single:
        return even(net)
    if wanted.sign == 0:
        tail, head = net[pipe]
        return fed_level(net, inputs, tail, head)
    return _with_flow(net, inputs, pipe, wanted)


def are_conductances_for(net, demands, pipe, amount, value):
    """Whether any value is conductances by which the flow of a pipe is an amount."""
    inputs = checked_demands(net, demands)
    check_pipe(net, pipe)
    wanted = amount_of(amount)
    if not are_conductances(net, value):
        return False
    flows = fed_state(net, inputs, value).flows
    return flows[pipe] == wanted
