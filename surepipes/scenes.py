"""Scenes: a net with all that is told of it."""

from surepipes.checks import check_order, checked_demands
from surepipes.drains import block
from surepipes.readings import readings_of
from surepipes.signs import fed_compare, fed_direction, held_compare, held_direction


class Scene:
    """A net; what is told of it comes with the classes below."""

    def __init__(self, net):
        self._net = net

    @property
    def net(self):
        """The net."""
        return self._net

    def _pipe_line(self, pipe):
        tail, head = self._net[pipe]
        return f"pipe {pipe} {tail} {head}"

    def _told(self):
        """The lines of the text behind those of the pipes."""
        return []

    def __eq__(self, other):
        return isinstance(other, Scene) and str(self) == str(other)

    def __str__(self):
        lines = [self._pipe_line(pipe) for pipe in self._net]
        told = self._told()
        return "".join([f"{line}\n" for line in [*lines, *told]])


class Fed:
    """What is told of a fed net."""

    def __init__(self, demands):
        self._demands = demands

    @property
    def demands(self):
        """The dict from the nodes to their demands."""
        return dict(self._demands)


class Held:
    """What is told of a held net."""

    def __init__(self, poles, rows):
        self._poles = poles
        self._rows = rows

    @property
    def poles(self):
        """The dict from the poles to their heights."""
        return dict(self._poles)

    @property
    def readings(self):
        """The list of the readings, in their sequence."""
        return list(self._rows)


class FedScene(Scene, Fed):
    """A net with demands."""

    def __init__(self, net, demands):
        Scene.__init__(self, net)
        Fed.__init__(self, checked_demands(net, demands))

    def _told(self):
        lines = [f"demand {node} {demand}" for node, demand in self._demands.items() if demand.sign != 0]
        return ["fed", *lines]

    def compare(self, u, v):
        """The answer about two nodes."""
        return fed_compare(self._net, self._demands, u, v)

    def direction(self, pipe):
        """The direction of a pipe."""
        return fed_direction(self._net, self._demands, pipe)

    def allows(self, order):
        """Whether an Order is possible."""
        return block(self._net, self._demands, order) is None


class HeldScene(Scene, Held):
    """A net with poles and readings."""

    def __init__(self, net, poles, *rows):
        readings = readings_of(net, poles, rows)
        Scene.__init__(self, net)
        Held.__init__(self, readings.poles, readings.rows())

    def _told(self):
        poles = [f"pole {pole} {height}" for pole, height in self._poles.items()]
        readings = [f"reading {u} {word} {v}" for u, word, v in self._rows]
        return ["held", *poles, *readings]

    def compare(self, u, v):
        """The answer about two nodes; with readings the tuple of what comes."""
        if not self._rows:
            return held_compare(self._net, self._poles, u, v)
        return readings_of(self._net, self._poles, self._rows).comes(u, v)

    def direction(self, pipe):
        """The direction of a pipe, without regard to readings."""
        return held_direction(self._net, self._poles, pipe)

    def allows(self, order):
        """Whether an Order is possible, and keeps the readings."""
        check_order(self._net, order)
        return readings_of(self._net, self._poles, self._rows).keeps(order)
