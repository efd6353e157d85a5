"""Cuts, which part two nodes, and ways, which lead from one node to another one."""

from surepipes.checks import check_node, checked_poles, is_node, is_set_of_nodes
from surepipes.errors import UnknownNode


def chosen(nodes, many):
    """All sorted tuples of so many of these sorted nodes, ascending."""
    if many == 0:
        return [()]
    found = []
    for at in range(len(nodes)):
        for rest in chosen(nodes[at + 1:], many - 1):
            found.append((nodes[at], *rest))
    return found


def _hangs_together(net, nodes):
    """Whether each of these nodes, at least one, can be reached from each other one by pipes between them."""
    found = {nodes[0]: True}
    waiting = [nodes[0]]
    while waiting:
        last = waiting.pop()
        for node in net.neighbours(last):
            if node in nodes and node not in found:
                found[node] = True
                waiting.append(node)
    return len(found) == len(nodes)


def _parts(net, u, v, nodes):
    """Whether a set of nodes is a cut of (u, v)."""
    if u not in nodes or v in nodes:
        return False
    others = [node for node in net.nodes if node not in nodes]
    return _hangs_together(net, nodes) and _hangs_together(net, others)


def cuts(net, u, v):
    """Yields the cuts of (u, v), ordered by their length, then as tuples."""
    check_node(net, u)
    check_node(net, v)
    for many in range(1, len(net.nodes)):
        for nodes in chosen(net.nodes, many):
            if _parts(net, u, v, nodes):
                yield nodes


def is_cut(net, u, v, value):
    """Whether any value is a cut of (u, v), told as a sorted tuple."""
    check_node(net, u)
    check_node(net, v)
    return is_set_of_nodes(net, value) and _parts(net, u, v, value)


def _ways_on(net, way, v, avoid):
    """All ways to v that begin with this one, ascending."""
    if way[-1] == v:
        return [way]
    found = []
    for node in net.neighbours(way[-1]):
        if node not in way and (node == v or node not in avoid):
            found.extend(_ways_on(net, (*way, node), v, avoid))
    return found


def ways(net, u, v, *, avoid=()):
    """Yields the ways from u to v, ascending, on which no node but the first and the last one is in avoid."""
    check_node(net, u)
    check_node(net, v)
    if not isinstance(avoid, (list, tuple)):
        raise UnknownNode(avoid)
    for node in avoid:
        check_node(net, node)
    found = _ways_on(net, (u,), v, avoid)
    yield from found


def is_way(net, value):
    """Whether any value is a way from its first node to its last one."""
    if not isinstance(value, tuple) or len(value) == 0 or not all([is_node(net, node) for node in value]):
        return False
    if len(set(value)) != len(value):
        return False
    return all([value[at + 1] in net.neighbours(value[at]) for at in range(len(value) - 1)])


def seen(net, poles, node):
    """The sorted list of the poles that a node sees."""
    heights = checked_poles(net, poles)
    check_node(net, node)
    found = {node: True}
    waiting = [node]
    while waiting:
        last = waiting.pop()
        for other in net.neighbours(last):
            if other not in found:
                found[other] = True
                if other not in heights:
                    waiting.append(other)
    return [pole for pole in heights if pole in found]
