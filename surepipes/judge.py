"""Claims, which are true or not, and the certificates of true ones, which are judged by following them.

PARTS are what stands in a claim behind its first word. The functions below raise an error for parts that are wrong.
"""

from surepipes.checks import are_conductances, check_node
from surepipes.drains import are_fed_drains, are_held_drains, block, fed_drains, held_drains, is_block
from surepipes.errors import InvalidClaim, InvalidWord, MissingError, PipeError
from surepipes.examples import fed_example
from surepipes.flows import bad_ring, fit_flows, is_bad_ring, ranks
from surepipes.nets import Net
from surepipes.ranges import are_conductances_for, conductances_for
from surepipes.readings import answer_row, is_kept, readings_of
from surepipes.scenes import Fed, Held, Scene
from surepipes.several import find_bar, find_curves, fit_curves, is_bar
from surepipes.states import fed_state
from surepipes.steps import Steps

KINDS = ("flows", "no flows", "amount", "can", "cannot", "order", "no order", "together", "not together")
LENGTHS = {"flows": 3, "no flows": 3, "amount": 5, "can": 5, "cannot": 5, "order": 3, "no order": 3, "together": 4,
           "not together": 4}
OF_SCENES = ("can", "cannot", "order", "no order")
ANSWERS = {">": "above", "=": "level", "<": "below"}
SIGNS = {">": 1, "=": 0, "<": -1}


def _readings_of(scene):
    return readings_of(scene.net, scene.poles, scene.readings)


def _check_comparison(parts):
    scene, u, word, v = parts
    check_node(scene.net, u)
    if not isinstance(word, str) or word not in ANSWERS:
        raise InvalidWord(word)
    check_node(scene.net, v)


def _one_more(parts):
    """The reading that tells what a claim about two nodes tells."""
    _, u, word, v = parts
    return answer_row(u, ANSWERS[word], v)


def _steps(parts):
    """The steps that are allowed with one reading more."""
    scene = parts[0]
    rows = scene.readings
    return Steps(scene.net, scene.poles, [*rows, _one_more(parts)])


def _flows(parts):
    net, flows = parts
    return ranks(net, flows)


def _are_flows(parts, value):
    net, flows = parts
    return fit_flows(net, flows, value)


def _no_flows(parts):
    net, flows = parts
    return bad_ring(net, flows)


def _are_no_flows(parts, value):
    net, flows = parts
    return is_bad_ring(net, flows, value)


def _amount(parts):
    net, demands, pipe, amount = parts
    return conductances_for(net, demands, pipe, amount)


def _is_amount(parts, value):
    net, demands, pipe, amount = parts
    return are_conductances_for(net, demands, pipe, amount, value)


def _can(parts):
    scene, u, word, v = parts
    if isinstance(scene, Fed):
        return fed_example(scene.net, scene.demands, u, ANSWERS[word], v)
    return _readings_of(scene).order_with(u, ANSWERS[word], v)


def _is_can(parts, value):
    _check_comparison(parts)
    scene, u, word, v = parts
    if isinstance(scene, Held):
        return _readings_of(scene).keeps(value) and is_kept(value, _one_more(parts))
    if not are_conductances(scene.net, value):
        return False
    heights = fed_state(scene.net, scene.demands, value).heights
    return (heights[u] - heights[v]).sign == SIGNS[word]


def _cannot(parts):
    return _steps(parts).closed_list()


def _is_cannot(parts, value):
    _check_comparison(parts)
    return _steps(parts).is_closed_list(value)


def _order(parts):
    scene, order = parts
    if isinstance(scene, Fed):
        return fed_drains(scene.net, scene.demands, order)
    if not scene.allows(order):
        return None
    return held_drains(scene.net, scene.poles, order)


def _is_order(parts, value):
    scene, order = parts
    if isinstance(scene, Fed):
        return are_fed_drains(scene.net, scene.demands, order, value)
    return are_held_drains(scene.net, scene.poles, order, value) and scene.allows(order)


def _no_order(parts):
    scene, order = parts
    return block(scene.net, scene.demands, order)


def _is_no_order(parts, value):
    scene, order = parts
    return is_block(scene.net, scene.demands, order, value)


def _together(parts):
    net, states, kinds = parts
    return find_curves(net, states, kinds)


def _is_together(parts, value):
    net, states, kinds = parts
    return fit_curves(net, states, kinds, value)


def _not_together(parts):
    net, states, kinds = parts
    return find_bar(net, states, kinds)


def _is_not_together(parts, value):
    net, states, kinds = parts
    return is_bar(net, states, kinds, value)


FINDERS = {"flows": _flows, "no flows": _no_flows, "amount": _amount, "can": _can, "cannot": _cannot, "order": _order,
           "no order": _no_order, "together": _together, "not together": _not_together}
JUDGES = {"flows": _are_flows, "no flows": _are_no_flows, "amount": _is_amount, "can": _is_can, "cannot": _is_cannot,
          "order": _is_order, "no order": _is_no_order, "together": _is_together, "not together": _is_not_together}


def _is_about(word, value):
    """Whether any value is what claims with this first word are about: a net, or a scene of the right kind."""
    if word not in OF_SCENES:
        return isinstance(value, Net)
    if word == "cannot":
        return isinstance(value, Held)
    if word == "no order":
        return isinstance(value, Fed)
    return isinstance(value, Scene)


def _has_form(value):
    if not isinstance(value, tuple) or len(value) == 0 or not isinstance(value[0], str) or value[0] not in KINDS:
        return False
    return len(value) == LENGTHS[value[0]] and _is_about(value[0], value[1])


def is_claim(value):
    """Whether any value is a claim."""
    if not _has_form(value):
        return False
    judge = JUDGES[value[0]]
    parts = value[1:]
    # What is wrong in the parts is found whatever is judged.
    try:
        judge(parts, None)
    except (PipeError, MissingError):
        return False
    return True


def _check_claim(claim):
    if not is_claim(claim):
        raise InvalidClaim(claim)


def certificate_of(claim):
    """A certificate of a claim; None if it is not true."""
    _check_claim(claim)
    find = FINDERS[claim[0]]
    return find(claim[1:])


def is_certificate(claim, value):
    """Whether any value is a certificate of a claim."""
    _check_claim(claim)
    judge = JUDGES[claim[0]]
    return judge(claim[1:], value)
