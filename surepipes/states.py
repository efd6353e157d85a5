"""States: flows and heights together, and whether they fit what is told of a net."""

from surepipes.amounts import Amount, amount_of
from surepipes.checks import amounts_of, checked_conductances, checked_curves, checked_demands, checked_flows
from surepipes.checks import checked_heights, checked_poles
from surepipes.curves import Curve
from surepipes.errors import InvalidFlows, InvalidHeights
from surepipes.solving import heights_by


class State:
    """Flows of pipes and heights of nodes."""

    def __init__(self, flows, heights):
        self._flows = amounts_of(flows)
        self._heights = amounts_of(heights)

    @property
    def flows(self):
        """The dict from the pipes to their flows."""
        return dict(self._flows)

    @property
    def heights(self):
        """The dict from the nodes to their heights."""
        return dict(self._heights)

    def __eq__(self, other):
        return isinstance(other, State) and self._flows == other._flows and self._heights == other._heights

    def moved(self, by):
        """The State with all heights greater by an amount."""
        more = amount_of(by)
        return State(self._flows, {node: self._heights[node] + more for node in self._heights})


def balances(net, flows):
    """The dict from all nodes to what flows out of them minus what flows into them."""
    amounts = checked_flows(net, flows)
    found = {node: Amount(0) for node in net.nodes}
    for pipe in net:
        tail, head = net[pipe]
        found[tail] = found[tail] + amounts[pipe]
        found[head] = found[head] - amounts[pipe]
    return found


def drops(net, heights):
    """The dict from all pipes to the height of the tail minus that of the head."""
    amounts = checked_heights(net, heights)
    found = {}
    for pipe in net:
        tail, head = net[pipe]
        found[pipe] = amounts[tail] - amounts[head]
    return found


def _state_with(net, heights, conductances):
    fallen = drops(net, heights)
    return State({pipe: fallen[pipe] * conductances[pipe] for pipe in net}, heights)


def fed_state(net, demands, conductances):
    """The State that fits demands and straight curves, the first node having the height 0."""
    inputs = checked_demands(net, demands)
    amounts = checked_conductances(net, conductances)
    fixed = {net.nodes[0]: Amount(0)}
    return _state_with(net, heights_by(net, amounts, fixed, inputs), amounts)


def held_state(net, poles, conductances):
    """The State that fits poles and straight curves."""
    fixed = checked_poles(net, poles)
    amounts = checked_conductances(net, conductances)
    inputs = {node: Amount(0) for node in net.nodes}
    return _state_with(net, heights_by(net, amounts, fixed, inputs), amounts)


def _has_pipes(net, state):
    return list(state.flows) == net.names()


def _has_nodes(net, state):
    return list(state.heights) == list(net.nodes)


def _is_on(net, curves, state):
    """Whether the state is one of this net, and the drop of each pipe is what its curve has for its flow."""
    if not _has_pipes(net, state) or not _has_nodes(net, state):
        return False
    flows = state.flows
    fallen = drops(net, state.heights)
    for pipe in net:
        curve = curves[pipe]
        if curve(flows[pipe]) != fallen[pipe]:
            return False
    return True


def fits_fed(net, demands, curves, state):
    """Whether a State fits demands and curves."""
    inputs = checked_demands(net, demands)
    lines = checked_curves(net, curves)
    return _is_on(net, lines, state) and balances(net, state.flows) == inputs


def fits_held(net, poles, curves, state):
    """Whether a State fits poles and curves."""
    fixed = checked_poles(net, poles)
    lines = checked_curves(net, curves)
    if not _is_on(net, lines, state):
        return False
    heights = state.heights
    if not all([heights[node] == fixed[node] for node in fixed]):
        return False
    found = balances(net, state.flows)
    return all([found[node].sign == 0 for node in found if node not in fixed])


def curves_of(net, state):
    """Straight Curves on which a State is, a dict; None if there are no curves at all."""
    if not _has_pipes(net, state):
        raise InvalidFlows(None)
    if not _has_nodes(net, state):
        raise InvalidHeights(None)
    flows = state.flows
    fallen = drops(net, state.heights)
    if not all([flows[pipe].sign == fallen[pipe].sign for pipe in net]):
        return None
    return {pipe: _straight(flows[pipe], fallen[pipe]) for pipe in net}


def _straight(flow, drop):
    """The straight Curve through a flow and a drop of equal signs."""
    if flow.sign == 0:
        return Curve.straight(1)
    return Curve.straight(flow.over(drop))
