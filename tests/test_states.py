"""surepipes/states.py: the class State, balances, drops, and the states of straight and of bent curves."""

import unittest

from plain import (GREAT, SMALL, STRANGE, balances_of, chance, ends_of, fed_heights, fraction, fractions, held_heights,
                   some_amount, some_conductances, some_demands, some_poles)
from surepipes.amounts import Amount
from surepipes.curves import Curve
from surepipes.errors import InvalidAmount, InvalidFlows, InvalidHeights
from surepipes.nets import Net
from surepipes.states import State, balances, curves_of, drops, fed_state, fits_fed, fits_held, held_state

NETS = {**SMALL, "great": GREAT}
NET = SMALL["bridged"]
DEMANDS = {"a": 2, "b": 0, "c": 0, "d": -2}
EVEN = dict.fromkeys(NET, 1)


def some_curve(rng):
    """A Curve by chance, mostly bent."""
    points = []
    for way in (-1, 1):
        flow, drop = Amount(0), Amount(0)
        side = []
        for _ in range(rng.randrange(0, 3)):
            flow = flow + Amount(rng.randrange(1, 6), rng.randrange(1, 4))
            drop = drop + Amount(rng.randrange(1, 6), rng.randrange(1, 4))
            side.append((flow * way, drop * way))
        points = side[::-1] + points if way < 0 else points + side
    return Curve(points or [(1, 1)])


def bent_state(rng, net):
    """A State on bent curves, and these: flows by their drops, which are told by heights."""
    curves = {name: some_curve(rng) for name in net}
    heights = {node: some_amount(rng) for node in net.nodes}
    flows = {}
    for name, (tail, head) in ends_of(net).items():
        flows[name] = curves[name].back(Amount.sum_of(heights[tail], -heights[head]))
    return State(flows, heights), curves


class States(unittest.TestCase):
    def test_flows_and_heights(self):
        flows, heights = {"q": 1, "p": Amount(1, 2)}, {"b": Amount(-3), "a": 0}
        state = State(flows, heights)
        self.assertEqual(list(state.flows.items()), [("p", Amount(1, 2)), ("q", Amount(1))])
        self.assertEqual(list(state.heights.items()), [("a", Amount(0)), ("b", Amount(-3))])
        self.assertEqual((list(flows), list(heights)), (["q", "p"], ["b", "a"]))
        self.assertEqual(State(heights=heights, flows=flows), state)

    def test_what_is_passed_and_returned_is_copied(self):
        flows, heights = {"p": 1}, {"a": 1, "b": 0}
        state = State(flows, heights)
        flows["q"], heights["c"] = 3, 4
        state.flows["p"] = Amount(7)
        state.heights.clear()
        self.assertEqual(state, State({"p": 1}, {"a": 1, "b": 0}))
        for name in ("flows", "heights"):
            with self.assertRaises(AttributeError):
                setattr(state, name, {})

    def test_equal(self):
        state = State({"p": 1}, {"a": 1, "b": 0})
        self.assertIs(state == State({"p": Amount(1)}, {"b": Amount(0), "a": Amount(2, 2)}), True)
        self.assertIs(state != State({"p": 1}, {"a": 1, "b": 0}), False)
        for flows, heights in [({"p": 2}, {"a": 1, "b": 0}), ({"p": 1}, {"a": 1, "b": 1}), ({"q": 1}, {"a": 1, "b": 0}),
                               ({"p": 1, "q": 1}, {"a": 1, "b": 0}), ({"p": 1}, {"a": 1}), ({}, {})]:
            self.assertIs(state == State(flows, heights), False)
        for value in [*STRANGE[:-2], 1, ({"p": 1}, {"a": 1, "b": 0}), {"p": 1}]:
            self.assertIs(state == value, False)

    def test_moved(self):
        state = State({"p": 1}, {"a": 1, "b": 0})
        self.assertEqual(state.moved(Amount(1, 2)), State({"p": 1}, {"a": Amount(3, 2), "b": Amount(1, 2)}))
        self.assertEqual(state.moved(by=-1), State({"p": 1}, {"a": 0, "b": -1}))
        self.assertEqual(state.moved(0), state)
        self.assertEqual(state, State({"p": 1}, {"a": 1, "b": 0}))

    def test_moved_by_what_is_no_amount(self):
        for value in [*STRANGE, "1", [1], {}]:
            with self.assertRaises(InvalidAmount) as caught:
                State({"p": 1}, {"a": 1, "b": 0}).moved(value)
            self.assertIs(caught.exception.value, value)


class Sums(unittest.TestCase):
    def test_balances(self):
        rng = chance(3)
        for net in NETS.values():
            for _ in range(5):
                flows = {name: some_amount(rng) for name in net}
                found = balances(net, flows)
                self.assertEqual(list(found), list(net.nodes))
                self.assertTrue(all(type(value) is Amount for value in found.values()))
                self.assertEqual(fractions(found), balances_of(net, flows))

    def test_drops(self):
        rng = chance(4)
        for net in NETS.values():
            for _ in range(5):
                heights = {node: some_amount(rng) for node in net.nodes}
                found = drops(net, heights)
                self.assertEqual(list(found), list(net))
                self.assertTrue(all(type(value) is Amount for value in found.values()))
                for name, (tail, head) in ends_of(net).items():
                    self.assertEqual(fraction(found[name]), fraction(heights[tail]) - fraction(heights[head]))


class Straight(unittest.TestCase):
    def check_flows(self, net, conductances, state):
        for name, (tail, head) in ends_of(net).items():
            drop = fraction(state.heights[tail]) - fraction(state.heights[head])
            self.assertEqual(fraction(state.flows[name]), drop * fraction(conductances[name]))
        for table, names in ((state.flows, net.names()), (state.heights, list(net.nodes))):
            self.assertEqual(list(table), names)
            self.assertTrue(all(type(value) is Amount for value in table.values()))

    def test_fed(self):
        rng = chance(5)
        for net in NETS.values():
            for _ in range(8):
                demands, conductances = some_demands(rng, net), some_conductances(rng, net)
                state = fed_state(net, demands, conductances)
                self.assertIs(type(state), State)
                self.assertEqual(fractions(state.heights), fed_heights(net, demands, conductances))
                self.check_flows(net, conductances, state)
                self.assertEqual(balances_of(net, state.flows), fractions(demands))
                self.assertEqual(str(state.heights[net.nodes[0]]), "0")
                curves = {name: Curve.straight(conductances[name]) for name in net}
                self.assertIs(fits_fed(net, demands, curves, state), True)

    def test_held(self):
        rng = chance(6)
        for net in NETS.values():
            for _ in range(8):
                poles, conductances = some_poles(rng, net), some_conductances(rng, net)
                state = held_state(net, poles, conductances)
                self.assertIs(type(state), State)
                self.assertEqual(fractions(state.heights), held_heights(net, poles, conductances))
                self.check_flows(net, conductances, state)
                for node in net.nodes:
                    if node in poles:
                        self.assertEqual(fraction(state.heights[node]), fraction(poles[node]))
                    else:
                        self.assertEqual(balances_of(net, state.flows)[node], 0)
                curves = {name: Curve.straight(conductances[name]) for name in net}
                self.assertIs(fits_held(net, poles, curves, state), True)

    def test_all_nodes_are_poles(self):
        state = held_state(NET, {"a": 3, "b": 1, "c": 1, "d": 0}, EVEN)
        self.assertEqual({name: str(flow) for name, flow in state.flows.items()},
                         {"ab": "2", "ac": "2", "bc": "0", "bd": "1", "cd": "1"})

    def test_demands_0(self):
        state = fed_state(NET, dict.fromkeys("abcd", 0), EVEN)
        self.assertEqual(state, State(dict.fromkeys(NET, 0), dict.fromkeys("abcd", 0)))

    def test_conductances_with_many_digits(self):
        rng = chance(7)
        long = {name: Amount(rng.randrange(1, 10 ** 900), rng.randrange(1, 10 ** 900)) for name in NET}
        fed, held = fed_state(NET, DEMANDS, long), held_state(NET, {"a": 9, "d": 0}, long)
        self.assertEqual(fractions(fed.heights), fed_heights(NET, DEMANDS, long))
        self.assertEqual(fractions(held.heights), held_heights(NET, {"a": 9, "d": 0}, long))
        self.assertEqual(balances(NET, fed.flows), {node: Amount(DEMANDS[node]) for node in DEMANDS})


class Fitting(unittest.TestCase):
    def test_bent_curves(self):
        rng = chance(8)
        for net in NETS.values():
            for _ in range(6):
                state, curves = bent_state(rng, net)
                demands = balances(net, state.flows)
                self.assertIs(fits_fed(net, demands, curves, state), True)
                self.assertIs(fits_fed(net, demands, curves, state.moved(Amount(7, 3))), True)
                free = rng.choice(net.nodes)
                poles = {node: height for node, height in state.heights.items() if node != free}
                self.assertIs(fits_held(net, state.heights, curves, state), True)
                self.assertIs(fits_held(net, poles, curves, state), bool(demands[free].sign == 0))
                self.assertIs(fits_held(net, state.heights, curves, state.moved(1)), False)

    def test_a_free_node_with_the_balance_0(self):
        state = fed_state(NET, DEMANDS, EVEN)
        curves = {name: Curve([(2, 2), (3, 9)]) for name in NET}
        self.assertIs(fits_held(NET, {"a": 0, "d": -2}, curves, state), True)
        self.assertIs(fits_held(NET, {"a": 0, "b": -1}, curves, state), False)
        self.assertIs(fits_held(NET, {"a": 0, "d": -3}, curves, state), False)
        self.assertIs(fits_held(NET, {"a": 0, "c": -1, "d": -2}, curves, state), True)

    def test_what_does_not_fit(self):
        state = fed_state(NET, DEMANDS, EVEN)
        curves = dict.fromkeys(NET, Curve.straight(1))
        self.assertIs(fits_fed(NET, DEMANDS, curves, state), True)
        self.assertIs(fits_fed(NET, {"a": 2, "b": 0, "c": -1, "d": -1}, curves, state), False)
        self.assertIs(fits_fed(NET, DEMANDS, {**curves, "ab": Curve.straight(2)}, state), False)
        self.assertIs(fits_fed(NET, DEMANDS, {**curves, "bc": Curve.straight(2)}, state), True)
        self.assertIs(fits_fed(NET, DEMANDS, curves, State({**state.flows, "ab": 2}, state.heights)), False)
        self.assertIs(fits_fed(NET, DEMANDS, curves, State(state.flows, {**state.heights, "a": 2})), False)

    def test_other_pipes_or_nodes(self):
        state = fed_state(NET, DEMANDS, EVEN)
        curves = dict.fromkeys(NET, Curve.straight(1))
        flows, heights = state.flows, state.heights
        less_flows = {name: flow for name, flow in flows.items() if name != "bc"}
        less_heights = {node: height for node, height in heights.items() if node != "b"}
        for other in [State({**flows, "x": 0}, heights), State(less_flows, heights), State(flows, {**heights, "z": 0}),
                      State(flows, less_heights), State({**less_flows, "x": 0}, heights), State({}, {}),
                      State(flows, {**less_heights, "z": -1})]:
            self.assertIs(fits_fed(NET, DEMANDS, curves, other), False)
            self.assertIs(fits_held(NET, {"a": 0, "d": -2}, curves, other), False)


class CurvesOf(unittest.TestCase):
    def test_straight_curves_of_which_a_state_is(self):
        rng = chance(9)
        for net in NETS.values():
            for _ in range(5):
                state, _ = bent_state(rng, net)
                found = curves_of(net, state)
                self.assertEqual(list(found), list(net))
                for name, (tail, head) in ends_of(net).items():
                    self.assertIs(type(found[name]), Curve)
                    self.assertIs(found[name].is_straight, True)
                    drop = Amount.sum_of(state.heights[tail], -state.heights[head])
                    self.assertEqual(found[name](state.flows[name]), drop)
                    if state.flows[name].sign == 0:
                        self.assertEqual(found[name].conductance, Amount(1))
                self.assertIs(fits_fed(net, balances(net, state.flows), found, state), True)

    def test_different_signs(self):
        pair = Net.of(p=("a", "b"), q=("b", "a"))
        for p, q, a, right in [(1, -2, 3, True), (-1, 2, -3, True), (0, 0, 0, True), (1, 2, 3, False), (0, 0, 1, False),
                               (1, -1, 0, False), (-1, 1, 3, False), (1, 0, 1, False), (0, -1, 1, False)]:
            found = curves_of(pair, State({"p": p, "q": q}, {"a": a, "b": 0}))
            self.assertEqual(found is not None, right, (p, q, a))
        found = curves_of(pair, State({"p": 3, "q": Amount(-1, 2)}, {"a": 2, "b": 1}))
        self.assertEqual([str(found[name].conductance) for name in "pq"], ["3", "1/2"])
        self.assertEqual(curves_of(state=State({"p": 0, "q": 0}, {"a": 2, "b": 2}), net=pair),
                         {"p": Curve.straight(1), "q": Curve.straight(1)})

    def test_other_pipes_or_nodes(self):
        flows, heights = dict.fromkeys(NET, 0), dict.fromkeys("abcd", 0)
        less = {"a": 0, "b": 0, "c": 0}
        for state in [State({**flows, "x": 0}, heights), State({"ab": 0}, heights), State({}, {}),
                      State({**flows, "x": 1}, less)]:
            with self.assertRaises(InvalidFlows) as caught:
                curves_of(NET, state)
            self.assertIsNone(caught.exception.pipe)
        for state in [State(flows, less), State(flows, {**heights, "z": 0}), State(flows, {**less, "z": 0}),
                      State({**flows, "ab": 1}, less)]:
            with self.assertRaises(InvalidHeights) as caught:
                curves_of(NET, state)
            self.assertIsNone(caught.exception.node)


if __name__ == "__main__":
    unittest.main()
