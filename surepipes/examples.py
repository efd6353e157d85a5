"""Conductances by which two nodes are as they can be."""

from surepipes.amounts import Amount
from surepipes.checks import check_node, checked_demands, checked_poles
from surepipes.errors import InvalidWord
from surepipes.levelling import fed_above, fed_level, level_between, raised
from surepipes.signs import lower_ways

WORDS = ("above", "level", "below")


def _check_word(word):
    if not isinstance(word, str) or word not in WORDS:
        raise InvalidWord(word)


def fed_example(net, demands, u, word, v):
    """Conductances by which u is above, level with or below v in a fed net; None if it never is."""
    inputs = checked_demands(net, demands)
    check_node(net, u)
    _check_word(word)
    check_node(net, v)
    if word == "above":
        return fed_above(net, inputs, u, v)
    if word == "below":
        return fed_above(net, inputs, v, u)
    return fed_level(net, inputs, u, v)


def _pipes_on(net, way):
    """For each two neighbouring nodes of a way a pipe that joins them."""
    return [net.between(way[at], way[at + 1])[0] for at in range(len(way) - 1)]


def _no_inputs(net):
    return {node: Amount(0) for node in net.nodes}


def _held_above(net, heights, u, v):
    """Conductances by which u is above v; None if it never is."""
    found = lower_ways(net, heights, v, u)
    if found is None:
        return None
    # The wider the pipes of the ways are, the nearer both nodes come to the heights of the poles to which they lead.
    strong = _pipes_on(net, found[0]) + _pipes_on(net, found[1])
    return raised(net, heights, _no_inputs(net), strong, u, v)


def held_example(net, poles, u, word, v):
    """Conductances by which u is above, level with or below v in a held net; None if it never is."""
    heights = checked_poles(net, poles)
    check_node(net, u)
    _check_word(word)
    check_node(net, v)
    if word == "above":
        return _held_above(net, heights, u, v)
    if word == "below":
        return _held_above(net, heights, v, u)
    high = _held_above(net, heights, u, v)
    low = _held_above(net, heights, v, u)
    return level_between(net, heights, _no_inputs(net), high, low, u, v)
