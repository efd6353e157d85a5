"""What is unknown of several states: by how much the drops of each kind grow from one flow to the next greater one.

A curve is known at the flows of its kind if these GROWTHS are known, which are all above 0; so each drop is a sum of
growths. A ROW tells how often each growth stands in such a sum.
"""

from surepipes.amounts import Amount, ascending
from surepipes.curves import Curve
from surepipes.flows import AGAINST, ALONG


def _paths(net):
    """For each node a dict from pipes to ways, by which one goes from the first node to it."""
    found = {net.nodes[0]: {}}
    waiting = [net.nodes[0]]
    while waiting:
        node = waiting.pop()
        for pipe in net:
            tail, head = net[pipe]
            if tail == node and head not in found:
                found[head] = {**found[node], pipe: ALONG}
                waiting.append(head)
            elif head == node and tail not in found:
                found[tail] = {**found[node], pipe: AGAINST}
                waiting.append(tail)
    return found


def _flows_of(net, states, kinds, kind):
    """The flows of a kind in all states that are not 0, ascending."""
    found = [state[pipe] for state in states for pipe in net if kinds[pipe] == kind]
    return ascending([flow for flow in found if flow.sign != 0])


def is_up_to(end, flow):
    """Whether a flow that is not 0 lies between 0 and another one, or is it."""
    if end.sign != flow.sign:
        return False
    return end <= flow if end.sign > 0 else flow <= end


def worth(row, numbers):
    """The sum that a row tells, if these are the growths."""
    return sum([many * number for many, number in zip(row, numbers)])


class Growths:
    """The growths of states, dicts from pipes to Amounts, with a dict from pipes to kinds."""

    def __init__(self, net, states, kinds):
        self._net = net
        self._states = states
        self._kinds = sorted(set([str(kind) for kind in kinds.values()]))
        # Each growth has a kind, and the flow at its end farther from 0.
        self._ends = [(kind, flow) for kind in self._kinds for flow in _flows_of(net, states, kinds, kind)]
        self._rows = [{pipe: self._row_at(kinds[pipe], state[pipe]) for pipe in net} for state in states]
        self._paths = _paths(net)

    def many(self):
        """How many growths there are."""
        return len(self._ends)

    def _row_at(self, kind, flow):
        """The row of the drop that a kind has for a flow."""
        return [end.sign if other == kind and is_up_to(end, flow) else 0 for other, end in self._ends]

    def row_along(self, state, parts):
        """The row of the drops of pipes in a state, each as often as a dict tells."""
        rows = self._rows[state]
        return [sum([parts[pipe] * rows[pipe][at] for pipe in parts]) for at in range(len(self._ends))]

    def row_between(self, state, u, v):
        """The row of the drop from u to v in a state."""
        parts = {pipe: -way for pipe, way in self._paths[u].items()}
        for pipe, way in self._paths[v].items():
            parts[pipe] = parts.get(pipe, 0) + way
        return self.row_along(state, parts)

    def rings(self):
        """A ring for each pipe that no path needs: a dict from all pipes to 1, 0 or -1. Others are sums of these."""
        found = []
        needed = [pipe for path in self._paths.values() for pipe in path]
        for pipe in self._net:
            if pipe not in needed:
                tail, head = self._net[pipe]
                parts = {other: 0 for other in self._net}
                parts[pipe] = 1
                for other, way in self._paths[tail].items():
                    parts[other] = parts[other] + way
                for other, way in self._paths[head].items():
                    parts[other] = parts[other] - way
                found.append(parts)
        return found

    def equations(self):
        """The rows of what has to be 0: for each state, and for each ring, the sum of the drops on it."""
        rings = self.rings()
        return [self.row_along(state, ring) for state in range(len(self._states)) for ring in rings]

    def curves_by(self, numbers):
        """The dict from the kinds to Curves with these growths."""
        return {kind: self._curve(kind, numbers) for kind in self._kinds}

    def _curve(self, kind, numbers):
        points = [(flow, worth(self._row_at(kind, flow), numbers)) for other, flow in self._ends if other == kind]
        return Curve(points) if points else Curve.straight(1)

    def heights_by(self, numbers):
        """For each state the dict of the heights with these growths, the first node having the height 0."""
        first = self._net.nodes[0]
        return [{node: Amount(worth(self.row_between(state, node, first), numbers)) for node in self._net.nodes}
                for state in range(len(self._states))]
