"""Nets: pipes that join nodes."""

from surepipes.amounts import is_name
from surepipes.errors import InvalidPipes, IsBridge, NotConnected, TooMany, UnknownNode, UnknownPipe


def _are_ends(value):
    """Whether any value is a tuple of two different NAMES."""
    if not isinstance(value, tuple) or len(value) != 2:
        return False
    return is_name(value[0]) and is_name(value[1]) and value[0] != value[1]


def _sorted_pipes(pipes):
    """The dict from the sorted names to tail and head; raises what is listed for pipes that are wrong."""
    if not isinstance(pipes, dict) or len(pipes) == 0 or not all([is_name(name) for name in pipes]):
        raise InvalidPipes(None)
    for name, ends in pipes.items():
        if not _are_ends(ends):
            raise InvalidPipes(name)
    return {name: pipes[name] for name in sorted([str(key) for key in pipes])}


def _sorted_nodes(pipes):
    return tuple(sorted(set([str(node) for ends in pipes.values() for node in ends])))


def _joined_nodes(pipes, node):
    """The nodes that these pipes join with a node, sorted."""
    heads = [head for tail, head in pipes.values() if tail == node]
    tails = [tail for tail, head in pipes.values() if head == node]
    return sorted(set(heads + tails))


def _reached(pipes, start):
    """The nodes that can be reached from a node by these pipes: a dict of True."""
    found = {start: True}
    waiting = [start]
    while waiting:
        last = waiting.pop()
        for node in _joined_nodes(pipes, last):
            if node not in found:
                found[node] = True
                waiting.append(node)
    return found


class Net:
    """Pipes, each from its tail to its head, by which all nodes are connected."""

    MAX_NODES = 8
    MAX_PIPES = 16

    def __init__(self, pipes):
        self._pipes = _sorted_pipes(pipes)
        self._names = list(self._pipes)
        self._nodes = _sorted_nodes(self._pipes)
        reached = _reached(self._pipes, self._nodes[0])
        for node in self._nodes:
            if node not in reached:
                raise NotConnected(node)
        if len(self._nodes) > self.MAX_NODES:
            raise TooMany("nodes", self.MAX_NODES)
        if len(self._names) > self.MAX_PIPES:
            raise TooMany("pipes", self.MAX_PIPES)
        self._near = {node: _joined_nodes(self._pipes, node) for node in self._nodes}

    @classmethod
    def of(cls, **pipes):
        """The net with these pipes."""
        return cls(pipes)

    @property
    def nodes(self):
        """The sorted tuple of the nodes."""
        return self._nodes

    def names(self):
        """The sorted list of the names of the pipes."""
        return list(self._names)

    def __iter__(self):
        return iter(self._names)

    def __len__(self):
        return len(self._names)

    def __contains__(self, value):
        return isinstance(value, str) and value in self._pipes

    def __getitem__(self, name):
        if not isinstance(name, str) or name not in self._pipes:
            raise UnknownPipe(name)
        return self._pipes[name]

    def __eq__(self, other):
        return isinstance(other, Net) and self._pipes == other._pipes

    def __repr__(self):
        return f"Net({self._pipes!r})"

    def _check_node(self, value):
        if not isinstance(value, str) or value not in self._near:
            raise UnknownNode(value)

    def _others(self, pipe):
        """The pipes but this one."""
        return {name: self._pipes[name] for name in self._names if name != pipe}

    def neighbours(self, node):
        """The sorted list of the nodes that a pipe joins with this one."""
        self._check_node(node)
        return list(self._near[node])

    def between(self, u, v):
        """The sorted list of the pipes that join two nodes."""
        self._check_node(u)
        self._check_node(v)
        return [name for name in self._names if self._pipes[name] in ((u, v), (v, u))]

    def without(self, pipe):
        """The net without a pipe that is no bridge."""
        if self.is_bridge(pipe):
            raise IsBridge(pipe)
        return Net(self._others(pipe))

    def joined(self, name, tail, head):
        """The net with a further pipe between two of its nodes."""
        if not is_name(name) or name in self._pipes:
            raise InvalidPipes(name)
        self._check_node(tail)
        self._check_node(head)
        if tail == head:
            raise UnknownNode(head)
        return Net({**self._pipes, name: (tail, head)})

    def turned(self, *names):
        """The net in which these pipes lead the other way."""
        pipes = dict(self._pipes)
        for name in names:
            if name not in self:
                raise UnknownPipe(name)
            tail, head = pipes[name]
            pipes[name] = (head, tail)
        return Net(pipes)

    def bridges(self):
        """The sorted list of the pipes that are bridges."""
        return [name for name in self._names if self.is_bridge(name)]

    def is_bridge(self, pipe):
        """Whether the net is not connected without this pipe."""
        tail, head = self[pipe]
        return head not in _reached(self._others(pipe), tail)
