"""What parameters must be that many functions have: DEMANDS, POLES, CONDUCTANCES and the like."""

from surepipes.amounts import Amount, amount_of, is_amount
from surepipes.curves import Curve
from surepipes.errors import InvalidConductances, InvalidCurves, InvalidDemands, InvalidFlows, InvalidHeights
from surepipes.errors import InvalidOrder, InvalidPoles, Unbalanced, UnknownNode, UnknownPipe
from surepipes.orders import Order


def is_node(net, value):
    """Whether any value is a node of the net."""
    return isinstance(value, str) and value in net.nodes


def check_node(net, value):
    """Raises UnknownNode unless a value is a node of the net."""
    if not is_node(net, value):
        raise UnknownNode(value)


def check_pipe(net, value):
    """Raises UnknownPipe unless a value is a pipe of the net."""
    if value not in net:
        raise UnknownPipe(value)


def is_order_of(net, value):
    """Whether any value is an Order of exactly the nodes of the net."""
    return isinstance(value, Order) and value.nodes == net.nodes


def check_order(net, value):
    """Raises InvalidOrder unless a value is an Order of exactly the nodes of the net."""
    if not is_order_of(net, value):
        raise InvalidOrder(value)


def is_set_of_nodes(net, value):
    """Whether any value is a sorted tuple of nodes without a node twice."""
    if not isinstance(value, tuple) or not all([is_node(net, node) for node in value]):
        return False
    return list(value) == sorted(set(value))


def has_keys(value, names):
    """Whether any value is a dict with exactly these keys."""
    return isinstance(value, dict) and len(value) == len(names) and all([name in value for name in names])


def is_table(value, names):
    """Whether any value is a dict with exactly these keys, and amounts."""
    return has_keys(value, names) and all([is_amount(amount) for amount in value.values()])


def are_conductances(net, value):
    """Whether any value is a dict with exactly the pipes as keys, and amounts above 0."""
    return has_keys(value, net.names()) and all([_is_above_0(amount) for amount in value.values()])


def _is_above_0(value):
    return is_amount(value) and amount_of(value).sign == 1


def amounts_of(table):
    """The dict with sorted keys and with Amounts."""
    return {name: amount_of(table[name]) for name in sorted([str(key) for key in table])}


def checked_demands(net, demands):
    """DEMANDS as Amounts."""
    if not has_keys(demands, net.nodes):
        raise InvalidDemands(None)
    for node, amount in demands.items():
        if not is_amount(amount):
            raise InvalidDemands(node)
    amounts = list(demands.values())
    total = Amount.sum_of(*amounts)
    if total.sign != 0:
        raise Unbalanced(total)
    return amounts_of(demands)


def checked_poles(net, poles):
    """POLES as Amounts."""
    if not isinstance(poles, dict) or len(poles) == 0:
        raise InvalidPoles(None)
    for node, amount in poles.items():
        if not is_node(net, node) or not is_amount(amount):
            raise InvalidPoles(node)
    return amounts_of(poles)


def checked_conductances(net, conductances):
    """CONDUCTANCES as Amounts."""
    if not has_keys(conductances, net.names()):
        raise InvalidConductances(None)
    for pipe, amount in conductances.items():
        if not _is_above_0(amount):
            raise InvalidConductances(pipe)
    return amounts_of(conductances)


def checked_curves(net, curves):
    """CURVES with sorted keys."""
    if not has_keys(curves, net.names()):
        raise InvalidCurves(None)
    for pipe, curve in curves.items():
        if not isinstance(curve, Curve):
            raise InvalidCurves(pipe)
    return {pipe: curves[pipe] for pipe in net}


def checked_flows(net, flows):
    """FLOWS as Amounts."""
    if not has_keys(flows, net.names()):
        raise InvalidFlows(None)
    for pipe, amount in flows.items():
        if not is_amount(amount):
            raise InvalidFlows(pipe)
    return amounts_of(flows)


def checked_heights(net, heights):
    """HEIGHTS as Amounts."""
    if not has_keys(heights, net.nodes):
        raise InvalidHeights(None)
    for node, amount in heights.items():
        if not is_amount(amount):
            raise InvalidHeights(node)
    return amounts_of(heights)
