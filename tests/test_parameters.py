"""Parameters of all functions: their names, what is wrong in them, in which sequence, and that they stay as they are."""

import copy
import inspect
import itertools
import unittest

from plain import SMALL, STRANGE, Hostile
from surepipes import changes, cuts, drains, errors, examples, flows, judge, ranges, several, signs, states, texts
from surepipes.amounts import Amount
from surepipes.board import Board
from surepipes.curves import Curve
from surepipes.nets import Net
from surepipes.orders import Order
from surepipes.ranges import Stretch
from surepipes.readings import Readings
from surepipes.scenes import FedScene, HeldScene, Scene
from surepipes.states import State

NET = SMALL["bridged"]
LINE = Curve.straight(1)
NODES = ["a", "b", "c", "d"]
NO_NODES = [*STRANGE, "e", "ab", 0, 1, ["a"], ("a",), {}, Amount(1)]

RIGHT = {
    "net": NET,
    "demands": {"d": -2, "b": 0, "a": Amount(2), "c": 0},
    "poles": {"d": 0, "a": 9},
    "conductances": dict(zip(NET, (Amount(1, 2), 1, 2, 3, 4))),
    "curves": dict(zip(NET, (LINE, Curve([(1, 1), (2, 4)]), LINE, LINE, LINE))),
    "flows": {"cd": 1, "ab": 1, "ac": 1, "bc": 0, "bd": Amount(1)},
    "heights": {"d": 0, "a": 2, "b": Amount(1), "c": 1},
    "state": State({"ab": 1, "ac": 1, "bc": 0, "bd": 1, "cd": 1}, {"a": 2, "b": 1, "c": 1, "d": 0}),
    "pipe": "bc", "u": "b", "v": "c", "node": "b", "pole": "a", "amount": Amount(1, 3), "word": "level",
    "avoid": ["a"], "value": None, "answer": "above",
    "order": Order([["a"], ["c"], ["b"], ["d"]]),
    "states": [{"cd": 1, "ab": 1, "ac": 1, "bc": 0, "bd": Amount(1)}, dict.fromkeys(NET, 0)],
    "kinds": {"cd": "k", "ab": "l", "ac": "k", "bc": "m", "bd": "l"}, "one": "k", "other": "l",
    "first": (0, "a", "b"), "second": (1, "c", "d"),
    "before": {"d": -2, "b": 0, "a": Amount(2), "c": 0}, "after": {"d": -2, "b": 1, "a": 1, "c": 0},
    "held_before": {"d": 0, "a": 9}, "held_after": {"d": Amount(1, 2), "a": 7},
    "closed": "ab", "tail": "a", "head": "d", "text": "pipe p a b\nheld\npole a 1\nreading a > b\n",
    "claim": ("order", FedScene(NET, {"a": 2, "b": 0, "c": 0, "d": -2}), Order([["a"], ["c"], ["b"], ["d"]])),
}

# What parameters are called, where this is not the name of their kind.
CALLED = {"pole": "node", "held_before": "before", "held_after": "after", "closed": "pipe"}

# Each function with the kinds of its parameters; a parameter has the name of its kind but for poles called node.
FUNCTIONS = {
    cuts.cuts: "net u v", cuts.is_cut: "net u v value", cuts.ways: "net u v avoid", cuts.seen: "net poles node",
    states.balances: "net flows", states.drops: "net heights", states.fed_state: "net demands conductances",
    states.held_state: "net poles conductances", states.fits_fed: "net demands curves state",
    states.fits_held: "net poles curves state", states.curves_of: "net state",
    flows.ranks: "net flows", flows.bad_ring: "net flows", flows.fit_flows: "net flows value",
    flows.is_bad_ring: "net flows value",
    ranges.cut_sums: "net demands pipe", ranges.flow_stretch: "net demands pipe",
    ranges.conductances_for: "net demands pipe amount",
    ranges.are_conductances_for: "net demands pipe amount value",
    signs.fed_compare: "net demands u v", signs.held_compare: "net poles u v", signs.fed_direction: "net demands pipe",
    signs.held_direction: "net poles pipe", signs.opposite: "answer", signs.lower_ways: "net poles u v",
    signs.are_lower_ways: "net poles u v value", signs.unlike_cuts: "net demands u v",
    signs.height_stretch: "net poles node", signs.gives: "net poles pole",
    examples.fed_example: "net demands u word v", examples.held_example: "net poles u word v",
    drains.fed_drains: "net demands order", drains.held_drains: "net poles order",
    drains.are_fed_drains: "net demands order value", drains.are_held_drains: "net poles order value",
    drains.block: "net demands order", drains.is_block: "net demands order value", drains.held_fault: "net poles order",
    several.kinds_of: "net kinds", several.find_curves: "net states kinds", several.find_bar: "net states kinds",
    several.fit_curves: "net states kinds value", several.is_bar: "net states kinds value",
    several.fit_together: "net states kinds", several.compare_drops: "net states first second kinds",
    several.can_share: "net states one other kinds", several.needed_states: "net states kinds",
    changes.demand_change: "net before after u v", changes.flow_change: "net before after pipe",
    changes.pole_change: "net held_before held_after u v", changes.height_change: "net held_before held_after node",
    changes.fed_closing: "net demands closed u v", changes.held_closing: "net poles closed u v",
    changes.fed_opening: "net demands tail head u v", changes.held_opening: "net poles tail head u v",
    changes.merged: "net poles", texts.read_scene: "text",
    judge.is_claim: "value", judge.certificate_of: "claim", judge.is_certificate: "claim value",
}

MODULES = (cuts, states, flows, ranges, signs, examples, drains, several, changes, texts, judge)

# Functions that are for the package only.
HELPERS = ("is_way", "chosen")

METHODS = {
    (Net, "__init__"): "pipes", (Net, "neighbours"): "node", (Net, "between"): "u v", (Net, "without"): "pipe",
    (Net, "joined"): "name tail head", (Net, "is_bridge"): "pipe", (State, "__init__"): "flows heights",
    (State, "moved"): "by", (Stretch, "__init__"): "low high", (Stretch, "plus"): "other", (Order, "__init__"): "levels",
    (Readings, "__init__"): "net poles", (Readings, "drop"): "u v", (Readings, "copy"): "", (Readings, "rows"): "",
    (Readings, "tried_by"): "rows deed", (Readings, "an_order"): "", (Readings, "closed_list"): "",
    (Readings, "keeps"): "value", (Readings, "is_closed_list"): "value", (Readings, "is_possible"): "",
    (Readings, "comes"): "u v", (Readings, "order_with"): "u answer v", (Readings, "places"): "node",
    (Readings, "needed"): "", (FedScene, "__init__"): "net demands", (HeldScene, "__init__"): "net poles rows",
    (FedScene, "compare"): "u v", (FedScene, "direction"): "pipe", (FedScene, "allows"): "order",
    (HeldScene, "compare"): "u v", (HeldScene, "direction"): "pipe", (HeldScene, "allows"): "order",
    (Board, "__init__"): "scene", (Board, "ask"): "line", (Board, "undo"): "", (Board, "assign"): "part value",
    (Board, "trial"): "", (Board, "tried_by"): "deed",
    (Net, "names"): "", (Net, "bridges"): "", (Stretch, "turned"): "", (Order, "levels"): "", (Order, "turned"): "",
}


def keys_wrong(table, error, attribute):
    """What is wrong about a dict that should have exactly the keys of a table."""
    less = dict(list(table.items())[1:])
    first = list(table.values())[0]
    rows = [*STRANGE, {}, [], list(table), list(table.items()), tuple(table.items()), 1, "ab", less,
            {**table, "zz": first}, {**less, "zz": first}, {**less, 1: first}, {**less, None: first},
            {**less, "a": None, "zz": True}]
    return [(value, error, attribute, None) for value in rows]


def values_wrong(table, error, attribute, wrong):
    """A wrong value at each key, also as the first of several, in the sequence of the dict."""
    rows = []
    for value in wrong:
        for key in table:
            rows.append(({**table, key: value}, error, attribute, key))
            turned = dict(list(table.items())[::-1])
            rows.append(({**turned, key: value}, error, attribute, key))
    both = list(table)
    rows.append(({**table, both[0]: None, both[1]: None}, error, attribute, both[0]))
    rows.append(({both[-1]: None, **{**table, both[-1]: None, both[0]: None}}, error, attribute, both[-1]))
    return rows


NO_AMOUNTS = [*STRANGE, "1", [1], (1,), {}, NET]
NOT_ABOVE_0 = [*NO_AMOUNTS, 0, -1, Amount(0), Amount(-1, 2)]
NO_CURVES = [*STRANGE, 1, Amount(1), [(1, 1)], "x", Curve]


def of_dicts(kind, error, attribute, wrong):
    return keys_wrong(RIGHT[kind], error, attribute) + values_wrong(RIGHT[kind], error, attribute, wrong)


def wrong_poles():
    rows = [(value, None) for value in [*STRANGE, {}, [], list(RIGHT["poles"].items()), 1, "a", ["a"]]]
    for node in ["z", "ab", "", None, True, 1, ("a",), b"a", object()]:
        rows += [({node: 1}, node), ({"a": 1, node: 1, "zz": None}, node), ({node: None, "a": None}, node)]
    for amount in NO_AMOUNTS:
        rows += [({"a": amount}, "a"), ({"d": 1, "a": amount, "z": 1}, "a"), ({"a": amount, "d": amount}, "a")]
    return [(value, errors.InvalidPoles, "node", node) for value, node in rows]


def unbalanced():
    rows = [({"a": 2, "b": 0, "c": 0, "d": -1}, Amount(1)), ({"a": 0, "b": 0, "c": 0, "d": Amount(-1, 2)}, Amount(-1, 2)),
            ({"d": 1, "c": 1, "b": 1, "a": 1}, Amount(4))]
    return [(value, errors.Unbalanced, "total", total) for value, total in rows]


def wrong_states():
    state = RIGHT["states"][0]
    rows = [(value, None) for value in [*STRANGE, [], (), state, [state] * 5, iter([state]), 1, "ab", {0: state}]]
    for wrong in [*STRANGE, {}, [], {"ab": 1}, {**state, "zz": 1}, {**state, "ab": None}, {**state, "ab": Hostile()}, 1]:
        rows += [([wrong], 0), ([state, wrong, None], 1), ((state, state, state, wrong), 3)]
    return [(value, errors.InvalidStates, "position", position) for value, position in rows]


def of_kinds():
    rows = of_dicts("kinds", errors.InvalidKinds, "pipe", [*STRANGE, 1, "K", "longnames", ["k"], ("k",), {}])
    return [row for row in rows if row[0] is not None]


def of_values(error, wrong, attribute="value"):
    return [(value, error, attribute, value) for value in wrong]


WRONG = {
    "demands": of_dicts("demands", errors.InvalidDemands, "node", NO_AMOUNTS) + unbalanced(),
    "poles": wrong_poles(),
    "conductances": of_dicts("conductances", errors.InvalidConductances, "pipe", NOT_ABOVE_0),
    "curves": of_dicts("curves", errors.InvalidCurves, "pipe", NO_CURVES),
    "flows": of_dicts("flows", errors.InvalidFlows, "pipe", NO_AMOUNTS),
    "heights": of_dicts("heights", errors.InvalidHeights, "node", NO_AMOUNTS),
    "pipe": of_values(errors.UnknownPipe, [*STRANGE, "a", "ba", 0, 1, ["ab"], ("ab",), ("a", "b"), {}, Amount(1)]),
    "u": of_values(errors.UnknownNode, NO_NODES), "v": of_values(errors.UnknownNode, NO_NODES),
    "node": of_values(errors.UnknownNode, NO_NODES),
    "pole": of_values(errors.UnknownPole, [*NO_NODES, "b", "c"]),
    "amount": of_values(errors.InvalidAmount, NO_AMOUNTS),
    "word": of_values(errors.InvalidWord, [*STRANGE, "open", "along", ">", 1, ["above"], ("above",), {}]),
    "answer": of_values(errors.InvalidWord, [*STRANGE, "along", "none", ">", 1, ["above"], ("above",), {}]),
    "avoid": of_values(errors.UnknownNode, [*STRANGE, "a", 1, {"a": 1}, range(1)]) + [
        ([*ahead, value, "zz"], errors.UnknownNode, "value", value) for value in NO_NODES for ahead in ([], ["a", "d"])],
    "order": of_values(errors.InvalidOrder, [*STRANGE, "a > b,c > d", [["a"], ["b", "c"], ["d"]], Order([["a"], ["b"]]),
                                             Order([["a", "b", "c", "d", "e"]]), 1, {}]),
    "states": wrong_states(), "kinds": of_kinds(),
    "first": of_values(errors.InvalidPlace, [*STRANGE, (), (0, "a"), (2, "a", "b"), (True, "a", "b"), [0, "a", "b"], 0]),
    "second": of_values(errors.InvalidPlace, [*STRANGE, (), (0, "a", "z"), (-1, "a", "b"), (0, "a", "b", "c"), "0ab"]),
    "held_before": wrong_poles(), "held_after": of_dicts("held_after", errors.InvalidPoles, "node", NO_AMOUNTS),
    "tail": of_values(errors.UnknownNode, NO_NODES), "head": of_values(errors.UnknownNode, NO_NODES),
    "claim": of_values(errors.InvalidClaim, [*STRANGE, (), ("order",), ("order", NET, RIGHT["order"]), 1, ["order"]]),
    "text": [(value, errors.InvalidText, "line", None) for value in STRANGE if not isinstance(value, str)],
}
for before, after in (("demands", "before"), ("demands", "after"), ("pipe", "closed")):
    WRONG[after] = WRONG[before]


def called(function, arguments):
    """The result by positions, keywords where there is no other way; a generator is run to its end."""
    names = list(inspect.signature(function).parameters.values())
    keywords = {row.name: value for row, value in zip(names, arguments) if row.kind is row.KEYWORD_ONLY}
    result = function(*arguments[:len(arguments) - len(keywords)], **keywords)
    return list(result) if inspect.isgenerator(result) else result


def shown(value):
    """The value in another form, with the sequence of the keys of dicts, to see whether it is changed."""
    if isinstance(value, dict):
        return [(key, shown(part)) for key, part in value.items()]
    if isinstance(value, (list, tuple)):
        return [type(value).__name__, *[shown(part) for part in value]]
    if isinstance(value, Scene):
        return str(value)
    if isinstance(value, State):
        return [shown(value.flows), shown(value.heights)]
    if isinstance(value, Curve):
        return shown(value.points())
    return repr(value)


def spoil(value):
    """Changes all lists and dicts in a value, inside, too."""
    if isinstance(value, dict):
        for part in value.values():
            spoil(part)
        value.clear()
        value["spoilt"] = None
    if isinstance(value, list):
        for part in value:
            spoil(part)
        value[:] = ["spoilt"]
    if isinstance(value, tuple):
        for part in value:
            spoil(part)


class Names(unittest.TestCase):
    def test_of_functions(self):
        for function, kinds in FUNCTIONS.items():
            wanted = [CALLED.get(kind, kind) for kind in kinds.split()]
            self.assertEqual(list(inspect.signature(function).parameters), wanted, function.__name__)

    def test_of_methods(self):
        for (holder, name), wanted in METHODS.items():
            found = list(inspect.signature(vars(holder)[name]).parameters)
            self.assertEqual(found[1:], wanted.split(), (holder, name))
        self.assertEqual(list(inspect.signature(Order.of_heights).parameters), ["heights"])
        told = [row.kind for row in inspect.signature(Net.of).parameters.values()]
        self.assertEqual(told, [inspect.Parameter.VAR_KEYWORD])
        self.assertEqual(list(inspect.signature(several.find_bar).parameters.values())[-1].default, None)
        for function in (Net({"p": ("a", "b")}).turned, Order.of, Readings(NET, {"a": 1}).tried):
            told = [row.kind for row in inspect.signature(function).parameters.values()]
            self.assertEqual(told, [inspect.Parameter.VAR_POSITIONAL])

    def test_all_functions_of_the_modules_are_tested_here(self):
        for module in MODULES:
            own = {what for name, what in vars(module).items() if inspect.isfunction(what)
                   and what.__module__ == module.__name__ and not name.startswith("_") and name not in HELPERS}
            self.assertLessEqual(own, set(FUNCTIONS))


class Calls(unittest.TestCase):
    def arguments(self, function):
        return [copy.deepcopy(RIGHT[kind]) if kind != "net" else NET for kind in FUNCTIONS[function].split()]

    def test_by_position_and_by_name(self):
        for function in FUNCTIONS:
            with self.subTest(function.__name__):
                arguments = self.arguments(function)
                by_position = called(function, arguments)
                names = list(inspect.signature(function).parameters)
                by_name = function(**dict(list(zip(names, arguments))[::-1]))
                by_name = list(by_name) if inspect.isgenerator(by_name) else by_name
                self.assertEqual(by_position, by_name)
                if isinstance(by_position, dict):
                    self.assertEqual(list(by_position), sorted(by_position))

    def test_arguments_stay_as_they_are(self):
        for function in FUNCTIONS:
            with self.subTest(function.__name__):
                arguments = self.arguments(function)
                ahead = shown(arguments)
                result = called(function, arguments)
                self.assertEqual(shown(arguments), ahead)
                first = shown(result)
                spoil(result)
                self.assertEqual(shown(arguments), ahead)
                self.assertEqual(shown(called(function, arguments)), first)

    def test_the_sequence_of_the_keys_has_no_effect(self):
        for function in FUNCTIONS:
            with self.subTest(function.__name__):
                arguments = self.arguments(function)
                turned = [dict(list(value.items())[::-1]) if isinstance(value, dict) else value for value in arguments]
                self.assertEqual(shown(called(function, turned)), shown(called(function, arguments)))

    def test_values_of_the_net(self):
        for function in FUNCTIONS:
            arguments = self.arguments(function)
            called(function, arguments)
            self.assertEqual(NET, SMALL["bridged"])
            self.assertEqual((NET.nodes, NET.names()), (("a", "b", "c", "d"), ["ab", "ac", "bc", "bd", "cd"]))


class Errors(unittest.TestCase):
    def caught(self, function, arguments, error):
        with self.assertRaises(error, msg=function.__name__) as caught:
            called(function, arguments)
        self.assertIs(type(caught.exception), error)
        return caught.exception

    def test_wrong_values(self):
        for function, kinds in FUNCTIONS.items():
            kinds = kinds.split()
            right = [RIGHT[kind] for kind in kinds]
            for at, kind in enumerate(kinds):
                for value, error, attribute, wanted in WRONG.get(kind, ()):
                    found = self.caught(function, [*right[:at], value, *right[at + 1:]], error)
                    told = getattr(found, attribute)
                    if isinstance(wanted, Amount):
                        self.assertIs(type(told), Amount)
                        self.assertTrue(told == wanted)
                    else:
                        self.assertTrue(told is wanted or type(told) is type(wanted) is str and told == wanted)

    def test_the_first_wrong_parameter_decides(self):
        for function, kinds in FUNCTIONS.items():
            kinds = kinds.split()
            right = [RIGHT[kind] for kind in kinds]
            bad = [at for at, kind in enumerate(kinds) if kind in WRONG]
            for one, other in itertools.combinations(bad, 2):
                for value, error, _, _ in WRONG[kinds[one]][::7]:
                    arguments = list(right)
                    arguments[one] = value
                    arguments[other] = WRONG[kinds[other]][0][0]
                    self.caught(function, arguments, error)

    def test_the_sum_of_demands_is_looked_at_last(self):
        for value, node in (({"a": 5, "b": None, "c": 0, "d": 0}, "b"), ({"a": 5, "b": 0}, None)):
            found = self.caught(signs.fed_compare, [NET, value, "z", "z"], errors.InvalidDemands)
            self.assertEqual(found.node, node)

    def test_too_many_and_too_few_arguments(self):
        for function, kinds in FUNCTIONS.items():
            right = [RIGHT[kind] for kind in kinds.split()]
            with self.assertRaises(TypeError):
                function(*right, None, None)
            with self.assertRaises(TypeError):
                function(*right[:-2])


if __name__ == "__main__":
    unittest.main()
