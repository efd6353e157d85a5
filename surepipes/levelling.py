"""Conductances that bring two nodes to where they should be.

What is told of a net is FIXED heights and INPUTS, as in solving.py; so fed and held nets are treated alike.
"""

from surepipes.amounts import Amount
from surepipes.solving import heights_by, resistance
from surepipes.sums import cut_towards

# By how much wide pipes are made wider until they are wide enough: little, so that the numbers stay short.
GROWTH = 100


def even(net):
    """The conductance 1 for all pipes."""
    return {pipe: Amount(1) for pipe in net}


def with_strong(net, strong, size):
    """A great conductance for strong pipes, 1 for the others."""
    return {pipe: size if pipe in strong else Amount(1) for pipe in net}


def pipes_inside(net, cut):
    """The pipes that do not lead from a cut to the other nodes."""
    return [pipe for pipe in net if (net[pipe][0] in cut) == (net[pipe][1] in cut)]


def _drop(net, conductances, fixed, inputs, u, v):
    heights = heights_by(net, conductances, fixed, inputs)
    return heights[u] - heights[v]


def raised(net, fixed, inputs, strong, u, v):
    """Conductances by which u is above v, if it is so for all sizes of the strong pipes that are great enough."""
    size = Amount(1)
    while True:
        found = with_strong(net, strong, size)
        if _drop(net, found, fixed, inputs, u, v).sign > 0:
            return found
        size = size * GROWTH


def _level_at(net, conductances, fixed, pipe, other, drops):
    """The conductance of a pipe by which a drop is 0, between its conductance and another one.

    The drops for these two are given, the first one above 0, the second one not. With more conductance by x, the drop
    is (first + a * x) / (1 + r * x), r being the resistance; the second drop tells what a is.
    """
    first, second = drops
    more = other - conductances[pipe]
    grown = 1 + more * resistance(net, conductances, fixed, pipe)
    return conductances[pipe] + (more * first).over(first - second * grown)


def levelled(net, fixed, inputs, high, low, u, v):
    """Conductances by which u is level with v; by `high` it is above v, by `low` it is below v.

    One pipe after another gets its conductance of `low`, until u is not above v any more: then it is this pipe by which
    both can be made level.
    """
    found = dict(high)
    first = _drop(net, found, fixed, inputs, u, v)
    for pipe in net:
        changed = {**found, pipe: low[pipe]}
        second = _drop(net, changed, fixed, inputs, u, v)
        if second.sign <= 0:
            return {**found, pipe: _level_at(net, found, fixed, pipe, low[pipe], (first, second))}
        found = changed
        first = second
    return found


def ground(net):
    """The fixed heights of a fed net."""
    return {net.nodes[0]: Amount(0)}


def fed_above(net, demands, u, v):
    """Conductances by which u is above v; None if it never is."""
    cut = cut_towards(net, demands, u, v, 1)
    if cut is None:
        return None
    # The wider the pipes inside of both parts are, the less drop there is in them, and the more it is the sum that
    # decides which part is higher.
    return raised(net, ground(net), demands, pipes_inside(net, cut), u, v)


def level_between(net, fixed, inputs, high, low, u, v):
    """Conductances by which u is level with v; None if it never is. `high`, `low`: None if it is never above, below."""
    if high is None and low is None:
        return even(net)
    if high is None or low is None:
        return None
    return levelled(net, fixed, inputs, high, low, u, v)


def fed_level(net, demands, u, v):
    """Conductances by which u is level with v; None if it never is."""
    high = fed_above(net, demands, u, v)
    low = fed_above(net, demands, v, u)
    return level_between(net, ground(net), demands, high, low, u, v)
