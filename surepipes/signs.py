"""Which of two nodes is surely the higher one, and what else is sure of heights and poles."""

from surepipes.amounts import ascending
from surepipes.checks import check_node, check_pipe, checked_demands, checked_poles
from surepipes.cuts import is_way, seen, ways
from surepipes.errors import InvalidWord, UnknownPole
from surepipes.ranges import Stretch
from surepipes.sums import cut_towards

OPPOSITES = {"above": "below", "level": "level", "below": "above", "open": "open"}
DIRECTIONS = {"above": "along", "level": "none", "below": "against", "open": "open"}


def opposite(answer):
    """The answer about (v, u), if one is given about (u, v)."""
    if not isinstance(answer, str) or answer not in OPPOSITES:
        raise InvalidWord(answer)
    return OPPOSITES[answer]


def _answer(can_be_above, can_be_below):
    if can_be_above and can_be_below:
        return "open"
    if can_be_above:
        return "above"
    if can_be_below:
        return "below"
    return "level"


def fed_compare(net, demands, u, v):
    """The answer about the heights of u and v in a fed net."""
    inputs = checked_demands(net, demands)
    check_node(net, u)
    check_node(net, v)
    above = cut_towards(net, inputs, u, v, 1)
    below = cut_towards(net, inputs, u, v, -1)
    return _answer(above is not None, below is not None)


def unlike_cuts(net, demands, u, v):
    """Two cuts of (u, v), with a sum above 0 and with one below 0; None unless the answer is open."""
    inputs = checked_demands(net, demands)
    check_node(net, u)
    check_node(net, v)
    above = cut_towards(net, inputs, u, v, 1)
    below = cut_towards(net, inputs, u, v, -1)
    if above is None or below is None:
        return None
    return (above, below)


def fed_direction(net, demands, pipe):
    """The direction of a pipe in a fed net."""
    inputs = checked_demands(net, demands)
    check_pipe(net, pipe)
    tail, head = net[pipe]
    return DIRECTIONS[fed_compare(net, inputs, tail, head)]


def _ways_to_poles(net, heights, node):
    """The ways from a node to poles on which all nodes but the last one are free."""
    if node in heights:
        return [(node,)]
    poles = list(heights)
    found = []
    for pole in poles:
        found.extend(list(ways(net, node, pole, avoid=poles)))
    return found


def _way_to_higher(net, heights, node, way, low):
    """A way from a node to a pole higher than `low`, all nodes but the last one being free, beside another way."""
    if node in way:
        return None
    found = {other: True for other in (*way, node)}
    waiting = [(node,)]
    while waiting:
        so_far = waiting.pop()
        last = so_far[-1]
        if last not in heights:
            for other in net.neighbours(last):
                if other not in found:
                    found[other] = True
                    waiting.append((*so_far, other))
        elif heights[last] > low:
            return so_far
    return None


def _lower_ways(net, heights, u, v):
    for way in _ways_to_poles(net, heights, u):
        other = _way_to_higher(net, heights, v, way, heights[way[-1]])
        if other is not None:
            return (way, other)
    return None


def lower_ways(net, poles, u, v):
    """Lower ways for (u, v), which show that u can be lower than v; None if there are none."""
    heights = checked_poles(net, poles)
    check_node(net, u)
    check_node(net, v)
    return _lower_ways(net, heights, u, v)


def _is_way_to_pole(net, heights, node, value):
    """Whether any value is a way from a node to a pole on which all nodes but the last one are free."""
    if not is_way(net, value) or value[0] != node or value[-1] not in heights:
        return False
    return all([other not in heights for other in value[:-1]])


def are_lower_ways(net, poles, u, v, value):
    """Whether any value is a tuple of lower ways for (u, v)."""
    heights = checked_poles(net, poles)
    check_node(net, u)
    check_node(net, v)
    if not isinstance(value, tuple) or len(value) != 2:
        return False
    one, other = value
    if not _is_way_to_pole(net, heights, u, one) or not _is_way_to_pole(net, heights, v, other):
        return False
    return all([node not in other for node in one]) and heights[one[-1]] < heights[other[-1]]


def held_compare(net, poles, u, v):
    """The answer about the heights of u and v in a held net."""
    heights = checked_poles(net, poles)
    check_node(net, u)
    check_node(net, v)
    above = _lower_ways(net, heights, v, u)
    below = _lower_ways(net, heights, u, v)
    return _answer(above is not None, below is not None)


def held_direction(net, poles, pipe):
    """The direction of a pipe in a held net."""
    heights = checked_poles(net, poles)
    check_pipe(net, pipe)
    tail, head = net[pipe]
    return DIRECTIONS[held_compare(net, heights, tail, head)]


def height_stretch(net, poles, node):
    """The Stretch of all heights that a node takes."""
    heights = checked_poles(net, poles)
    check_node(net, node)
    if node in heights:
        return Stretch(heights[node], heights[node])
    amounts = ascending([heights[pole] for pole in seen(net, heights, node)])
    return Stretch(amounts[0], amounts[-1])


def gives(net, poles, node):
    """Whether a pole surely gives, surely takes, surely does neither, or whether this is open."""
    heights = checked_poles(net, poles)
    if not isinstance(node, str) or node not in heights:
        raise UnknownPole(node)
    amounts = ascending([heights[pole] for pole in seen(net, heights, node)])
    sees_lower = amounts[0] < heights[node]
    sees_higher = heights[node] < amounts[-1]
    if sees_lower and sees_higher:
        return "open"
    if sees_lower:
        return "gives"
    if sees_higher:
        return "takes"
    return "none"
