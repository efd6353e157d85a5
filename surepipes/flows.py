"""Which flows there can be: those without a bad ring, which are those that some heights fit."""

from surepipes.amounts import amount_of, is_integer
from surepipes.checks import checked_flows, is_table

ALONG = 1
AGAINST = -1


def _ends(net, pipe, way):
    """The nodes at which one begins and comes to, going along a pipe this way."""
    tail, head = net[pipe]
    if way == ALONG:
        return (tail, head)
    return (head, tail)


def _falls(net, amounts):
    """Tuples (pipe, way, high, low) for each pipe and each way in which its flow is at least 0."""
    found = []
    for pipe in net:
        for way in (ALONG, AGAINST):
            if amounts[pipe].sign * way >= 0:
                high, low = _ends(net, pipe, way)
                found.append((pipe, way, high, low))
    return found


def _raise_once(found, falls, amounts):
    """Raises the counts as far as each pipe alone demands it; whether one was raised."""
    raised = False
    for pipe, _, high, low in falls:
        least = found[low] + abs(amounts[pipe].sign)
        if found[high] < least:
            found[high] = least
            raised = True
    return raised


def _ranks(net, amounts):
    found = {node: 0 for node in net.nodes}
    falls = _falls(net, amounts)
    while _raise_once(found, falls, amounts):
        # A count comes from a walk down through as many pipes that flow; with as many as nodes it meets a node again.
        if any([found[node] >= len(net.nodes) for node in found]):
            return None
    return found


def ranks(net, flows):
    """The least counts that are heights that fit the flows, a dict; None if there is a bad ring."""
    return _ranks(net, checked_flows(net, flows))


def _steps_to(falls, start, goal):
    """A list of tuples (pipe, way) by which one goes from a node to another one without rising, or None."""
    found = {start: []}
    waiting = [start]
    while waiting:
        node = waiting.pop()
        for pipe, way, high, low in falls:
            if high == node and low not in found:
                found[low] = [*found[node], (pipe, way)]
                waiting.append(low)
    if goal not in found:
        return None
    return found[goal]


def bad_ring(net, flows):
    """A bad ring of the flows, a list of tuples (pipe, way); None if there is none."""
    amounts = checked_flows(net, flows)
    falls = _falls(net, amounts)
    for pipe, way, high, low in falls:
        if amounts[pipe].sign != 0:
            back = _steps_to(falls, low, high)
            if back is not None:
                return [(pipe, way), *back]
    return None


def fit_flows(net, flows, value):
    """Whether any value is heights that fit the flows."""
    amounts = checked_flows(net, flows)
    if not is_table(value, net.nodes):
        return False
    for pipe in net:
        tail, head = net[pipe]
        drop = amount_of(value[tail]) - amount_of(value[head])
        if drop.sign != amounts[pipe].sign:
            return False
    return True


def _is_part(net, value):
    """Whether any value is a tuple (pipe, way)."""
    if not isinstance(value, tuple) or len(value) != 2:
        return False
    return value[0] in net and is_integer(value[1]) and value[1] in (ALONG, AGAINST)


def _is_ring(net, value):
    """Whether any value is a ring: it comes back to where it begins, and to no node and no pipe twice."""
    if not isinstance(value, (list, tuple)) or len(value) < 2 or not all([_is_part(net, part) for part in value]):
        return False
    ends = [_ends(net, pipe, way) for pipe, way in value]
    if not all([ends[at - 1][1] == ends[at][0] for at in range(len(ends))]):
        return False
    return len(set([start for start, _ in ends])) == len(ends) and len(set([pipe for pipe, _ in value])) == len(value)


def is_bad_ring(net, flows, value):
    """Whether any value is a bad ring of the flows."""
    amounts = checked_flows(net, flows)
    if not _is_ring(net, value):
        return False
    signs = [amounts[pipe].sign * way for pipe, way in value]
    return all([sign >= 0 for sign in signs]) and any([sign > 0 for sign in signs])
