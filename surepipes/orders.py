"""Orders: the nodes from the top down, those of equal heights in one level."""

from surepipes.amounts import amount_of, ascending, is_amount, is_name
from surepipes.errors import InvalidHeights, InvalidLevels, UnknownNode


def _is_level(value):
    """Whether any value is a list of NAMES with at least one."""
    return isinstance(value, (list, tuple)) and len(value) > 0 and all([is_name(name) for name in value])


def _places_of(levels):
    """The dict from each node to the position of its level; raises what is listed for levels that are wrong."""
    if not isinstance(levels, (list, tuple)) or len(levels) == 0:
        raise InvalidLevels(None)
    places = {}
    for position, level in enumerate(levels):
        if not _is_level(level):
            raise InvalidLevels(position)
        for name in level:
            if name in places:
                raise InvalidLevels(position)
            places[name] = position
    return places


def _check_heights(heights):
    if not isinstance(heights, dict) or len(heights) == 0 or not all([is_name(name) for name in heights]):
        raise InvalidHeights(None)
    for name, height in heights.items():
        if not is_amount(height):
            raise InvalidHeights(name)


class Order:
    """Levels of nodes, from the top down."""

    def __init__(self, levels):
        self._places = _places_of(levels)
        self._levels = [tuple(sorted([str(name) for name in level])) for level in levels]

    @classmethod
    def of_heights(cls, heights):
        """The Order in which these heights are."""
        _check_heights(heights)
        rows = ascending([amount_of(height) for height in heights.values()])
        levels = [[name for name in heights if amount_of(heights[name]) == row] for row in rows[::-1]]
        return cls(levels)

    @staticmethod
    def of(*levels):
        """The Order with these levels."""
        return Order(levels)

    @property
    def nodes(self):
        """The sorted tuple of all nodes."""
        return tuple(sorted([str(name) for name in self._places]))

    def levels(self):
        """The list of the levels, sorted tuples, from the top down."""
        return list(self._levels)

    def __iter__(self):
        return iter(self._levels)

    def __len__(self):
        return len(self._levels)

    def __contains__(self, value):
        return isinstance(value, str) and value in self._places

    def __getitem__(self, node):
        if not isinstance(node, str) or node not in self._places:
            raise UnknownNode(node)
        return self._places[node]

    def __eq__(self, other):
        return isinstance(other, Order) and self._levels == other._levels

    def __str__(self):
        return " > ".join([",".join(level) for level in self._levels])

    def __repr__(self):
        return f"Order({self._levels!r})"

    def turned(self):
        """The Order upside down."""
        return Order(self._levels[::-1])
