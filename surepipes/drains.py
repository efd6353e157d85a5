"""Which orders are possible: those with drains, flows that lead down everywhere; and what shows that there are none."""

from surepipes.amounts import Amount, amount_of, ascending
from surepipes.checks import check_order, checked_demands, checked_poles, is_set_of_nodes, is_table
from surepipes.cuts import chosen
from surepipes.states import balances
from surepipes.sums import sum_in

ALONG = 1
AGAINST = -1

# What stands where in a fall, a tuple (pipe, way, high, low) for a pipe that leads down.
PIPE = 0
HIGH = 2
LOW = 3


def _falls(net, order):
    """The falls of all pipes that lead down."""
    found = []
    for pipe in net:
        tail, head = net[pipe]
        if order[tail] < order[head]:
            found.append((pipe, ALONG, tail, head))
        elif order[head] < order[tail]:
            found.append((pipe, AGAINST, head, tail))
    return found


def _path(falls, amounts, start, goals):
    """The first of the goals that is reached, and the tuples (pipe, more) by which; None if none is.

    More flow can be led down each pipe (more is 1), and less down a pipe that has some (more is -1).
    """
    found = {start: []}
    waiting = [start]
    while waiting:
        node = waiting.pop(0)
        if node in goals:
            return (node, found[node])
        for pipe, _, high, low in falls:
            if high == node and low not in found:
                found[low] = [*found[node], (pipe, 1)]
                waiting.append(low)
            elif low == node and high not in found and amounts[pipe].sign > 0:
                found[high] = [*found[node], (pipe, -1)]
                waiting.append(high)
    return None


def _led(amounts, steps, many):
    """The amounts with so much more on these steps."""
    found = dict(amounts)
    for pipe, more in steps:
        found[pipe] = found[pipe] + many * more
    return found


def _taken(amounts, steps):
    """The amounts of the pipes that get less on these steps."""
    return [amounts[pipe] for pipe, more in steps if more < 0]


def _least(amounts):
    return ascending(amounts)[0]


def _amounts_down(net, demands, falls):
    """Amounts of at least 0 that lead down the pipes so that the balances are the demands; None if there are none.

    What is put in at a node is led to nodes at which something is taken out, always on as few pipes as possible: so it
    comes to an end.
    """
    amounts = {fall[PIPE]: Amount(0) for fall in falls}
    left = dict(demands)
    while True:
        givers = [node for node in net.nodes if left[node].sign > 0]
        if not givers:
            return amounts
        start = givers[0]
        path = _path(falls, amounts, start, [node for node in net.nodes if left[node].sign < 0])
        if path is None:
            return None
        goal, steps = path
        taken = _taken(amounts, steps)
        many = _least([left[start], -left[goal], *taken])
        amounts = _led(amounts, steps, many)
        left = {**left, start: left[start] - many, goal: left[goal] + many}


def _amounts_above_0(falls, amounts):
    """Amounts above 0 with the same balances; None if there are none.

    A pipe without flow gets some on a ring. The ring comes back by less flow in some pipes, because no pipe leads up;
    these keep half of the least.
    """
    found = amounts
    for pipe, _, high, low in falls:
        if found[pipe].sign == 0:
            path = _path(falls, found, low, [high])
            if path is None:
                return None
            _, back = path
            ring = [(pipe, 1), *back]
            found = _led(found, ring, _least(_taken(found, ring)).over(2))
    return found


def _flows(net, falls, amounts):
    """The flows of all pipes, if these amounts lead down the falls."""
    senses = {pipe: way for pipe, way, _, _ in falls}
    return {pipe: amounts[pipe] * senses[pipe] if pipe in senses else Amount(0) for pipe in net}


def fed_drains(net, demands, order):
    """Drains of an order whose balances are the demands, a dict; None if the order is not possible."""
    inputs = checked_demands(net, demands)
    check_order(net, order)
    falls = _falls(net, order)
    amounts = _amounts_down(net, inputs, falls)
    if amounts is not None:
        amounts = _amounts_above_0(falls, amounts)
    if amounts is None:
        return None
    return _flows(net, falls, amounts)


def _pipes_to_pole(falls, heights, node, near, far):
    """Pipes that lead from a node to a pole, each from its near end to its far one (HIGH and LOW, or LOW and HIGH)."""
    found = []
    last = node
    while last not in heights:
        falls_on = [fall for fall in falls if fall[near] == last]
        found.append(falls_on[0][PIPE])
        last = falls_on[0][far]
    return found


def held_drains(net, poles, order):
    """Drains of an order whose balances are 0 at each free node, a dict; None if the order is not possible."""
    heights = checked_poles(net, poles)
    check_order(net, order)
    if _held_fault(net, heights, order) is not None:
        return None
    falls = _falls(net, order)
    amounts = {fall[PIPE]: Amount(0) for fall in falls}
    for pipe, _, high, low in falls:
        up = _pipes_to_pole(falls, heights, high, LOW, HIGH)
        down = _pipes_to_pole(falls, heights, low, HIGH, LOW)
        for name in [*up, pipe, *down]:
            amounts[name] = amounts[name] + 1
    return _flows(net, falls, amounts)


def _are_drains(net, order, value):
    """Whether any value is drains of an order."""
    if not is_table(value, net.names()):
        return False
    senses = {pipe: way for pipe, way, _, _ in _falls(net, order)}
    return all([amount_of(value[pipe]).sign == senses.get(pipe, 0) for pipe in net])


def are_fed_drains(net, demands, order, value):
    """Whether any value is drains of an order whose balances are the demands."""
    inputs = checked_demands(net, demands)
    check_order(net, order)
    return _are_drains(net, order, value) and balances(net, value) == inputs


def are_held_drains(net, poles, order, value):
    """Whether any value is drains of an order in which the poles stand as told, with balances 0 at each free node."""
    heights = checked_poles(net, poles)
    check_order(net, order)
    if _wrong_poles(heights, order) is not None or not _are_drains(net, order, value):
        return False
    found = balances(net, value)
    return all([found[node].sign == 0 for node in found if node not in heights])


def _is_block(demands, falls, nodes):
    """Whether these nodes, at least one and not all, are a block."""
    out = [fall for fall in falls if fall[HIGH] in nodes and fall[LOW] not in nodes]
    if any([fall[LOW] in nodes and fall[HIGH] not in nodes for fall in falls]):
        return False
    sign = sum_in(demands, nodes).sign
    return sign < 0 or (sign == 0 and len(out) > 0) or (sign > 0 and len(out) == 0)


def block(net, demands, order):
    """Of the blocks with the fewest nodes the first one; None if there is no block."""
    inputs = checked_demands(net, demands)
    check_order(net, order)
    falls = _falls(net, order)
    for many in range(1, len(net.nodes)):
        for nodes in chosen(net.nodes, many):
            if _is_block(inputs, falls, nodes):
                return nodes
    return None


def is_block(net, demands, order, value):
    """Whether any value is a block."""
    inputs = checked_demands(net, demands)
    check_order(net, order)
    if not is_set_of_nodes(net, value) or len(value) in (0, len(net.nodes)):
        return False
    return _is_block(inputs, _falls(net, order), value)


def _wrong_poles(heights, order):
    """The first pair of poles that do not stand as their heights tell; None if all do."""
    poles = list(heights)
    for at, one in enumerate(poles):
        for other in poles[at + 1:]:
            if (heights[one] - heights[other]).sign != Amount(order[other] - order[one]).sign:
                return (one, other)
    return None


def _is_carried(net, order, node):
    """Whether a free node has neighbours above and below it, or none but in its own level."""
    places = [order[other] - order[node] for other in net.neighbours(node)]
    above = any([place < 0 for place in places])
    below = any([place > 0 for place in places])
    return above == below


def _held_fault(net, heights, order):
    pair = _wrong_poles(heights, order)
    if pair is not None:
        return ("pole", *pair)
    for node in net.nodes:
        if node not in heights and not _is_carried(net, order, node):
            return ("node", node)
    return None


def held_fault(net, poles, order):
    """None if an order is possible for poles; otherwise ("pole", p, q) or ("node", u), the first that is wrong."""
    heights = checked_poles(net, poles)
    check_order(net, order)
    return _held_fault(net, heights, order)
