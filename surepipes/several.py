"""Several states: whether one set of curves has them all, and what is sure then of their drops."""

from surepipes.amounts import is_integer, is_name
from surepipes.checks import amounts_of, has_keys, is_node, is_table
from surepipes.curves import Curve
from surepipes.errors import Barred, InvalidKinds, InvalidPlace, InvalidStates, UnknownKind
from surepipes.growths import Growths, is_up_to, worth
from surepipes.positive import solved
from surepipes.states import balances, drops

MOST_STATES = 4


def _checked_states(net, states):
    """The list of the states as dicts of Amounts."""
    if not isinstance(states, (list, tuple)) or not 1 <= len(states) <= MOST_STATES:
        raise InvalidStates(None)
    for position, state in enumerate(states):
        if not is_table(state, net.names()):
            raise InvalidStates(position)
    return [amounts_of(state) for state in states]


def _checked_kinds(net, kinds):
    """The dict from the pipes to their kinds."""
    if kinds is None:
        return {pipe: pipe for pipe in net}
    if not has_keys(kinds, net.names()):
        raise InvalidKinds(None)
    for pipe, kind in kinds.items():
        if not is_name(kind):
            raise InvalidKinds(pipe)
    return {pipe: kinds[pipe] for pipe in net}


def _pipes_of(table):
    """The dict from the sorted kinds to the sorted lists of their pipes."""
    names = sorted(set([str(kind) for kind in table.values()]))
    return {name: [pipe for pipe in table if table[pipe] == name] for name in names}


def kinds_of(net, kinds):
    """The dict from all kinds to the lists of their pipes."""
    return _pipes_of(_checked_kinds(net, kinds))


def _found_growths(net, flows, table):
    """The growths, and what solves their equations, or weights that show that nothing does."""
    growths = Growths(net, flows, table)
    numbers, weights = solved(growths.equations(), growths.many())
    return (growths, numbers, weights)


def find_curves(net, states, kinds=None):
    """A tuple (curves, heights) by which states fit together: a dict, and a list of dicts; None if they do not."""
    flows = _checked_states(net, states)
    growths, numbers, _ = _found_growths(net, flows, _checked_kinds(net, kinds))
    if numbers is None:
        return None
    return (growths.curves_by(numbers), growths.heights_by(numbers))


def _bar(net, growths, weights):
    """The bar that takes each ring, in each state, as often as its weight tells."""
    rings = growths.rings()
    found = []
    for start in range(0, len(weights), len(rings)):
        part = weights[start:start + len(rings)]
        found.append({pipe: worth([ring[pipe] for ring in rings], part) for pipe in net})
    return found


def find_bar(net, states, kinds=None):
    """A bar for states, a list of dicts; None if they fit together."""
    flows = _checked_states(net, states)
    growths, _, weights = _found_growths(net, flows, _checked_kinds(net, kinds))
    if weights is None:
        return None
    return _bar(net, growths, weights)


def _are_curves(table, value):
    """Whether any value is a dict from exactly the kinds to Curves."""
    return has_keys(value, list(_pipes_of(table))) and all([isinstance(curve, Curve) for curve in value.values()])


def _is_on(net, table, curves, flows, heights):
    """Whether each pipe has the drop that the curve of its kind has for its flow."""
    fallen = drops(net, heights)
    for pipe in net:
        curve = curves[table[pipe]]
        if curve(flows[pipe]) != fallen[pipe]:
            return False
    return True


def fit_curves(net, states, kinds, value):
    """Whether any value is a tuple (curves, heights) by which states fit together."""
    flows = _checked_states(net, states)
    table = _checked_kinds(net, kinds)
    if not isinstance(value, tuple) or len(value) != 2 or not _are_curves(table, value[0]):
        return False
    curves, heights = value
    if not isinstance(heights, (list, tuple)) or len(heights) != len(flows):
        return False
    if not all([is_table(row, net.nodes) for row in heights]):
        return False
    return all([_is_on(net, table, curves, flows[at], heights[at]) for at in range(len(flows))])


def _are_integers(net, value):
    """Whether any value is a dict from exactly the pipes to INTEGERS."""
    return has_keys(value, net.names()) and all([is_integer(number) for number in value.values()])


def _sums_outwards(flows, table, kind, value):
    """For each flow of a kind that is not 0 what the numbers of the flows at least as far from 0 add up to.

    For flows below 0 it is the negative: so in a bar none of these is below 0.
    """
    parts = [(flows[at][pipe], value[at][pipe]) for at in range(len(flows)) for pipe in table if table[pipe] == kind]
    found = []
    for end, _ in parts:
        if end.sign != 0:
            far = [number for flow, number in parts if is_up_to(end, flow)]
            found.append(sum(far) * end.sign)
    return found


def is_bar(net, states, kinds, value):
    """Whether any value is a bar for states."""
    flows = _checked_states(net, states)
    table = _checked_kinds(net, kinds)
    if not isinstance(value, (list, tuple)) or len(value) != len(flows):
        return False
    if not all([_are_integers(net, row) for row in value]):
        return False
    for row in value:
        if any([balance.sign != 0 for balance in balances(net, row).values()]):
            return False
    sums = [number for kind in _pipes_of(table) for number in _sums_outwards(flows, table, kind, value)]
    return all([number >= 0 for number in sums]) and any([number > 0 for number in sums])


def _fit(net, flows, table):
    """Whether states fit together, which may be none."""
    return _found_growths(net, flows, table)[1] is not None


def fit_together(net, states, kinds=None):
    """Whether states fit together."""
    flows = _checked_states(net, states)
    return _fit(net, flows, _checked_kinds(net, kinds))


def _check_place(net, flows, value):
    """Raises InvalidPlace unless a value is a tuple of the position of a state and two nodes."""
    if not isinstance(value, tuple) or len(value) != 3 or not is_integer(value[0]):
        raise InvalidPlace(value)
    if not 0 <= value[0] < len(flows) or not is_node(net, value[1]) or not is_node(net, value[2]):
        raise InvalidPlace(value)


def _can_be(growths, row, sign):
    """Whether the sum that a row tells can have a sign, 1 or -1: then it is this sign times one more number above 0."""
    equations = [[*other, 0] for other in growths.equations()]
    numbers, _ = solved([*equations, [*row, -sign]], growths.many() + 1)
    return numbers is not None


def compare_drops(net, states, first, second, kinds=None):
    """The answer about two drops, each told as a tuple (position, u, v)."""
    flows = _checked_states(net, states)
    _check_place(net, flows, first)
    _check_place(net, flows, second)
    growths, numbers, _ = _found_growths(net, flows, _checked_kinds(net, kinds))
    if numbers is None:
        raise Barred()
    more = growths.row_between(first[0], first[1], first[2])
    less = growths.row_between(second[0], second[1], second[2])
    row = [one - other for one, other in zip(more, less)]
    # All that can be has one sign, or it is 0 always, or all signs come: so one example tells what is left to be asked.
    found = worth(row, numbers)
    if found == 0:
        return "open" if _can_be(growths, row, 1) else "level"
    if found > 0:
        return "open" if _can_be(growths, row, -1) else "above"
    return "open" if _can_be(growths, row, 1) else "below"


def _check_kind(table, value):
    if not isinstance(value, str) or value not in list(table.values()):
        raise UnknownKind(value)


def can_share(net, states, one, other, kinds=None):
    """Whether states fit together if two kinds are made one."""
    flows = _checked_states(net, states)
    table = _checked_kinds(net, kinds)
    _check_kind(table, one)
    _check_kind(table, other)
    return _fit(net, flows, {pipe: one if table[pipe] == other else table[pipe] for pipe in table})


def needed_states(net, states, kinds=None):
    """Positions of states that do not fit together, and do without any one of them; None if the states fit."""
    flows = _checked_states(net, states)
    table = _checked_kinds(net, kinds)
    if _fit(net, flows, table):
        return None
    found = list(range(len(flows)))
    for position in range(len(flows)):
        less = [other for other in found if other != position]
        if not _fit(net, [flows[other] for other in less], table):
            found = less
    return found
