"""Allowed steps from set of nodes to set of nodes, by which the orders of a held net that keep readings lead down.

A set of nodes is an INTEGER here: the node at the position k of the net's nodes counts 2 ** k in it.
"""

from surepipes.amounts import ascending
from surepipes.checks import is_set_of_nodes


class Steps:
    """The steps that are allowed for the heights of poles and for readings, tuples (u, word, v)."""

    def __init__(self, net, heights, rows):
        self._net = net
        self._bits = {node: 1 << at for at, node in enumerate(net.nodes)}
        self._all = self._set_of(net.nodes)
        free = [node for node in net.nodes if node not in heights]
        self._free = self._set_of(free)
        self._near = [(self._bits[node], self._set_of(net.neighbours(node))) for node in free]
        tops = ascending([heights[pole] for pole in heights])[::-1]
        self._poles = [self._set_of([pole for pole in heights if heights[pole] == top]) for top in tops]
        self._rules = [(self._bits[u], word, self._bits[v]) for u, word, v in rows]

    def _set_of(self, nodes):
        return sum([self._bits[node] for node in nodes])

    def _nodes_of(self, many):
        """The sorted tuple of the nodes in a set."""
        return tuple([node for node in self._net.nodes if self._bits[node] & many != 0])

    def _highest(self, above):
        """The highest poles outside of a set; 0 if there is none."""
        for poles in self._poles:
            left = poles & ~above
            if left != 0:
                return left
        return 0

    def _is_carried(self, above, level):
        """Whether each free node of a level has neighbours above and below, or none but in its own level."""
        below = self._all & ~above & ~level
        for node, near in self._near:
            if node & level != 0 and (near & above == 0) != (near & below == 0):
                return False
        return True

    def _is_true(self, above, level):
        """Whether a level below these nodes breaks no reading."""
        for u, word, v in self._rules:
            if word == "=":
                if (u & level == 0) != (v & level == 0):
                    return False
            elif v & level != 0:
                higher = above if word == ">" else above | level
                if u & higher == 0:
                    return False
        return True

    def _further(self, above):
        """The list of the sets to which steps lead from a set."""
        poles = self._highest(above)
        free = self._free & ~above
        found = []
        part = free
        # This goes through all subsets of the free nodes, down to the empty one.
        while part >= 0:
            levels = [part] if poles == 0 else [part, part | poles]
            for level in levels:
                if level != 0 and self._is_carried(above, level) and self._is_true(above, level):
                    found.append(above | level)
            part = (part - 1) & free if part > 0 else -1
        return found

    def _reached(self):
        """A dict from sets to those from which a step leads to them; it ends early if all nodes are reached."""
        found = {0: 0}
        waiting = [0]
        while waiting and self._all not in found:
            above = waiting.pop()
            for further in self._further(above):
                if further not in found:
                    found[further] = above
                    waiting.append(further)
        return found

    def levels(self):
        """Levels of an order that keeps the readings; None if there is none."""
        found = self._reached()
        if self._all not in found:
            return None
        levels = []
        last = self._all
        while last != 0:
            levels.append(self._nodes_of(last & ~found[last]))
            last = found[last]
        return levels[::-1]

    def are_possible(self):
        """Whether some order keeps the readings."""
        return self._all in self._reached()

    def closed_list(self):
        """A closed list; None if some order keeps the readings."""
        found = self._reached()
        if self._all in found:
            return None
        return [self._nodes_of(many) for many in found]

    def is_closed_list(self, value):
        """Whether any value is a closed list."""
        if not isinstance(value, (list, tuple)) or not all([is_set_of_nodes(self._net, nodes) for nodes in value]):
            return False
        found = {self._set_of(nodes): True for nodes in value}
        if 0 not in found or self._all in found:
            return False
        return all([further in found for above in found for further in self._further(above)])
