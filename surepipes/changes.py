"""What a change makes surely greater or less, the curves being kept."""

from surepipes.amounts import Amount, is_amount
from surepipes.checks import amounts_of, check_node, check_pipe, checked_demands, checked_poles, has_keys
from surepipes.errors import InvalidPoles, IsBridge, NotSure
from surepipes.nets import Net
from surepipes.ranges import flow_stretch
from surepipes.signs import fed_compare, fed_direction, held_compare, held_direction, height_stretch

CHANGES = {"above": "greater", "level": "equal", "below": "less", "open": "open"}


def _differences(before, after):
    return {node: after[node] - before[node] for node in before}


def demand_change(net, before, after, u, v):
    """The answer about the change of h(u) - h(v), if demands change."""
    old = checked_demands(net, before)
    new = checked_demands(net, after)
    return CHANGES[fed_compare(net, _differences(old, new), u, v)]


def flow_change(net, before, after, pipe):
    """The Stretch of all changes of the flow of a pipe, if demands change."""
    old = checked_demands(net, before)
    new = checked_demands(net, after)
    return flow_stretch(net, _differences(old, new), pipe)


def _risen(net, before, after):
    """By how much the heights of the poles grow, a dict."""
    old = checked_poles(net, before)
    if not has_keys(after, list(old)):
        raise InvalidPoles(None)
    for node, amount in after.items():
        if not is_amount(amount):
            raise InvalidPoles(node)
    return _differences(old, amounts_of(after))


def pole_change(net, before, after, u, v):
    """The answer about the change of h(u) - h(v), if the heights of poles change."""
    return CHANGES[held_compare(net, _risen(net, before, after), u, v)]


def height_change(net, before, after, node):
    """The Stretch of all changes of the height of a node, if the heights of poles change."""
    return height_stretch(net, _risen(net, before, after), node)


def _moved(net, high, low, u, v):
    """The answer about the change of h(u) - h(v), if 1 more is put in at a node, and taken out at another one."""
    demands = {node: Amount(0) for node in net.nodes}
    demands[high] = Amount(1)
    demands[low] = Amount(-1)
    return CHANGES[fed_compare(net, demands, u, v)]


def _closed(net, pipe, direction, ends, nodes):
    """The answer of a net in which a pipe is closed; ends and nodes are told as that net calls them."""
    tail, head = ends
    u, v = nodes
    if direction == "none":
        return "equal"
    if direction == "along":
        return _moved(net.without(pipe), tail, head, u, v)
    return _moved(net.without(pipe), head, tail, u, v)


def _check_closing(net, pipe, u, v):
    check_pipe(net, pipe)
    if net.is_bridge(pipe):
        raise IsBridge(pipe)
    check_node(net, u)
    check_node(net, v)


def fed_closing(net, demands, pipe, u, v):
    """The answer about the change of h(u) - h(v), if a pipe of a fed net is closed."""
    inputs = checked_demands(net, demands)
    _check_closing(net, pipe, u, v)
    direction = fed_direction(net, inputs, pipe)
    if direction == "open":
        raise NotSure(pipe)
    return _closed(net, pipe, direction, net[pipe], (u, v))


def held_closing(net, poles, pipe, u, v):
    """The answer about the change of h(u) - h(v), if a pipe of a held net is closed."""
    heights = checked_poles(net, poles)
    _check_closing(net, pipe, u, v)
    direction = held_direction(net, heights, pipe)
    if direction == "open":
        raise NotSure(pipe)
    one = _merged(net, heights)
    if one is None or pipe not in one[0]:
        return "equal"
    names = _names_in(net, heights, one[1])
    return _closed(one[0], pipe, direction, one[0][pipe], (names[u], names[v]))


def _check_opening(net, tail, head, u, v):
    for node in (tail, head, u, v):
        check_node(net, node)


def _opened(net, answer, ends, nodes):
    """The answer of a net in which a pipe is opened between two ends, an answer about these being sure."""
    tail, head = ends
    u, v = nodes
    if answer == "level" or tail == head:
        return "equal"
    if answer == "above":
        return _moved(net, head, tail, u, v)
    return _moved(net, tail, head, u, v)


def fed_opening(net, demands, tail, head, u, v):
    """The answer about the change of h(u) - h(v), if a pipe of a fed net is opened between two nodes."""
    inputs = checked_demands(net, demands)
    _check_opening(net, tail, head, u, v)
    answer = fed_compare(net, inputs, tail, head)
    if answer == "open":
        raise NotSure((tail, head))
    return _opened(net, answer, (tail, head), (u, v))


def held_opening(net, poles, tail, head, u, v):
    """The answer about the change of h(u) - h(v), if a pipe of a held net is opened between two nodes."""
    heights = checked_poles(net, poles)
    _check_opening(net, tail, head, u, v)
    answer = held_compare(net, heights, tail, head)
    if answer == "open":
        raise NotSure((tail, head))
    one = _merged(net, heights)
    if one is None:
        return "equal"
    names = _names_in(net, heights, one[1])
    # Two poles are one node of the merged net: a pipe between them changes nothing.
    return _opened(one[0], answer, (names[tail], names[head]), (names[u], names[v]))


def _names_in(net, heights, name):
    """The dict from all nodes to what they are called in the merged net."""
    return {node: name if node in heights else node for node in net.nodes}


def _merged(net, heights):
    if len(heights) == len(net.nodes):
        return None
    name = list(heights)[0]
    names = _names_in(net, heights, name)
    ends = {pipe: (names[net[pipe][0]], names[net[pipe][1]]) for pipe in net}
    return (Net({pipe: ends[pipe] for pipe in ends if ends[pipe][0] != ends[pipe][1]}), name)


def merged(net, poles):
    """A tuple of the merged net and the name of its node for the poles; None if there is no free node."""
    return _merged(net, checked_poles(net, poles))
