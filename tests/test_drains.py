"""surepipes/drains.py: which orders are possible, drains of these, blocks and faults of the others."""

import unittest

from plain import (GREAT, SMALL, STRANGE, all_orders, all_sets, balances_of, chance, ends_of, fed_heights, fraction,
                   fractions, held_heights, held_order_fault, levels_of, pipes_down, places_of, sign,
                   some_conductances, some_demands, some_levels, some_net, some_poles)
from surepipes.amounts import Amount
from surepipes.drains import (are_fed_drains, are_held_drains, block, fed_drains, held_drains, held_fault, is_block)
from surepipes.errors import InvalidDemands, InvalidOrder, InvalidPoles, Unbalanced
from surepipes.flows import bad_ring
from surepipes.nets import Net
from surepipes.orders import Order
from surepipes.states import State, curves_of, fits_fed, fits_held

RNG = chance(60)
NETS = {name: net for name, net in SMALL.items() if len(net.nodes) < 5}
NETS = {**NETS, **{f"chance {at}": some_net(RNG, 4, RNG.randrange(3, 8)) for at in range(4)}}
FIVE = {name: net for name, net in SMALL.items() if len(net.nodes) == 5}
NET = SMALL["bridged"]
DEMANDS = {"a": 2, "b": 0, "c": 0, "d": -2}
POLES = {"a": 9, "d": 0}
TOLD = Order([["a"], ["c"], ["b"], ["d"]])
NO_ORDERS = [*STRANGE, 1, "a > b > c > d", [["a"], ["b", "c"], ["d"]], {"a": 0, "b": 1, "c": 1, "d": 2},
             Order([["a"], ["b", "c"]]), Order([["a"], ["b", "c"], ["d"], ["e"]]), Order([["a", "b", "c", "e"]]), Order]


def plain_is_block(net, demands, levels, nodes):
    """Point 62, word for word."""
    down = pipes_down(net, levels)
    if not nodes or len(nodes) == len(net.nodes) or any(low in nodes and high not in nodes for high, low in down):
        return False
    out = any(high in nodes and low not in nodes for high, low in down)
    total = sum(fraction(demands[node]) for node in nodes)
    return total < 0 or total == 0 and out or total > 0 and not out


def plain_are_drains(net, levels, value):
    places = places_of(levels)
    return all(sign(fraction(value[pipe])) == sign(places[head] - places[tail])
               for pipe, (tail, head) in ends_of(net).items())


def cases(nets, many, seed):
    """Nets, all of their orders or some, demands and poles."""
    rng = chance(seed)
    for name, net in nets.items():
        for _ in range(many):
            yield name, net, rng


class Fed(unittest.TestCase):
    def check(self, net, demands, levels, name=None):
        """Either right drains or a right block: as never both can be, this tells that the answer is right."""
        order = Order(levels)
        found = fed_drains(net, demands, order)
        blocks = [nodes for nodes in all_sets(net.nodes) if plain_is_block(net, demands, levels, nodes)]
        self.assertEqual(block(net, demands, order), blocks[0] if blocks else None, (name, demands, levels))
        self.assertEqual(found is None, bool(blocks), (name, demands, levels))
        if found is None:
            self.assertIs(is_block(net, demands, order, blocks[-1]), True)
            return False
        self.assertEqual(list(found), list(net))
        self.assertTrue(all(type(value) is Amount for value in found.values()))
        self.assertTrue(plain_are_drains(net, levels, found), (name, demands, levels, found))
        self.assertEqual(balances_of(net, found), fractions(demands), (name, demands, levels, found))
        self.assertIs(are_fed_drains(net, demands, order, found), True)
        return True

    def test_all_orders_of_small_nets(self):
        for name, net, rng in cases(NETS, 4, 61):
            demands = some_demands(rng, net)
            told = [self.check(net, demands, levels, name) for levels in all_orders(net.nodes)]
            self.assertTrue(any(told), "some state has some order")

    def test_orders_of_greater_nets(self):
        for name, net, rng in cases({**FIVE, "great": GREAT}, 8, 62):
            demands = some_demands(rng, net)
            self.check(net, demands, some_levels(rng, net.nodes), name)
            heights = fed_heights(net, demands, some_conductances(rng, net))
            self.assertTrue(self.check(net, demands, levels_of(heights), name))

    def test_orders_of_states_are_possible(self):
        for name, net, rng in cases(NETS, 6, 63):
            demands = some_demands(rng, net)
            heights = fed_heights(net, demands, some_conductances(rng, net))
            self.assertTrue(self.check(net, demands, levels_of(heights), name))

    def test_drains_are_flows_of_a_state_with_this_order(self):
        for name, net, rng in cases(NETS, 3, 64):
            demands = some_demands(rng, net)
            for levels in all_orders(net.nodes):
                order = Order(levels)
                found = fed_drains(net, demands, order)
                if found is not None:
                    heights = {node: -place for node, place in places_of(levels).items()}
                    state = State(found, heights)
                    self.assertTrue(fits_fed(net, demands, curves_of(net, state), state), (name, demands, levels))
                    self.assertIsNone(bad_ring(net, found))

    def test_told_values(self):
        self.assertEqual(block(NET, DEMANDS, TOLD.turned()), ("d",))
        self.assertIsNone(block(NET, DEMANDS, TOLD))
        # Nothing flows from b to d, which takes 2.
        self.assertEqual(block(NET, DEMANDS, Order.of(["a"], ["c"], ["b", "d"])), ("a", "c", "d"))
        self.assertEqual(block(NET, DEMANDS, Order([["a", "b", "c", "d"]])), ("a",))
        nothing = dict.fromkeys("abcd", 0)
        self.assertEqual(fed_drains(NET, nothing, Order([["a", "b", "c", "d"]])), dict.fromkeys(NET, Amount(0)))
        self.assertEqual(block(NET, nothing, TOLD), ("a",))

    def test_a_bridge_and_several_pipes_between_two_nodes(self):
        net = SMALL["triangle with a tail"]
        demands = {"a": 1, "b": -1, "c": 0, "d": 0, "e": 0}
        order = Order([["a"], ["c", "d", "e"], ["b"]])
        self.assertEqual({pipe: sign(fraction(flow)) for pipe, flow in fed_drains(net, demands, order).items()},
                         {"ab": 1, "bc": 1, "ca": -1, "cd": 0, "de": 0, "ed": 0})
        self.assertEqual(block(net, demands, Order([["a"], ["c"], ["d", "e"], ["b"]])), ("a", "b", "c"))
        self.assertIsNone(fed_drains(net, demands, Order([["a"], ["c", "d"], ["e"], ["b"]])))
        pair = SMALL["three pipes"]
        found = fed_drains(pair, {"a": Amount(1, 2), "b": Amount(-1, 2)}, Order.of(["a"], ["b"]))
        self.assertEqual([sign(fraction(flow)) for flow in found.values()], [1, 1, -1])
        self.assertIsNone(fed_drains(pair, {"a": 1, "b": -1}, Order.of(["b"], ["a"])))

    def test_great_and_tiny_demands(self):
        great, tiny = 10 ** 20 - 1, Amount(1, 10 ** 20 - 1)
        demands = {**dict.fromkeys(GREAT.nodes, 0), "a": great, "b": tiny, "c": -great, "d": -tiny}
        rng = chance(65)
        for _ in range(4):
            self.assertTrue(self.check(GREAT, demands, levels_of(fed_heights(GREAT, demands, some_conductances(rng, GREAT)))))
            self.check(GREAT, demands, some_levels(rng, GREAT.nodes))

    def test_is_block_of_all_sets(self):
        for name, net, rng in cases(NETS, 2, 66):
            demands = some_demands(rng, net)
            for levels in all_orders(net.nodes):
                for nodes in all_sets(net.nodes):
                    self.assertIs(is_block(net, demands, Order(levels), nodes),
                                  plain_is_block(net, demands, levels, nodes), (name, demands, levels, nodes))

    def test_is_block_of_any_value(self):
        order = TOLD.turned()
        self.assertIs(is_block(NET, DEMANDS, order, ("d",)), True)
        self.assertIs(is_block(value=("d",), order=order, demands=DEMANDS, net=NET), True)
        for value in [*STRANGE, ["d"], "d", ("d", "d"), (), ("d", "b"), ("z",), ("d", None), (("d",),), 1, {"d": 1},
                      ("a", "b", "c", "d"), ("a", "b", "c"), ("b", "d", "c"), order, (STRANGE[-2],)]:
            self.assertIs(is_block(NET, DEMANDS, order, value), False)

    def test_are_fed_drains_of_any_value(self):
        right = fed_drains(NET, DEMANDS, TOLD)
        plain = {"ab": 1, "ac": 1, "bc": -1, "bd": 2, "cd": 0}
        self.assertIs(are_fed_drains(NET, DEMANDS, TOLD, {**plain, "cd": 1, "ac": 1}), False)
        good = {"ab": 1, "ac": 1, "bc": Amount(-1, 2), "bd": Amount(3, 2), "cd": Amount(1, 2)}
        self.assertIs(are_fed_drains(NET, DEMANDS, TOLD, good), True)
        self.assertIs(are_fed_drains(NET, DEMANDS, TOLD, dict(list(good.items())[::-1])), True)
        self.assertIs(are_fed_drains(value=good, order=TOLD, demands=DEMANDS, net=NET), True)
        # These do not lead down everywhere, are not in balance, or belong to another order.
        for wrong in (plain, {**good, "bc": 0, "bd": 1, "cd": 1}, {**good, "ab": 2}, {**good, "ab": True}):
            self.assertIs(are_fed_drains(NET, DEMANDS, TOLD, wrong), False)
        self.assertIs(are_fed_drains(NET, DEMANDS, TOLD.turned(), good), False)
        self.assertIs(are_fed_drains(NET, DEMANDS, Order.of(["a"], ["b", "c"], ["d"]), good), False)
        self.assertIs(are_fed_drains(NET, {**DEMANDS, "a": 3, "d": -3}, TOLD, good), False)
        less = {pipe: flow for pipe, flow in right.items() if pipe != "ab"}
        for value in [*STRANGE, {}, [], list(right), list(right.items()), less, {**right, "zz": 1}, {**less, "zz": 1},
                      {**right, "ab": None}, {**right, "ab": "1"}, {**right, "ab": STRANGE[-2]}, 1, TOLD]:
            self.assertIs(are_fed_drains(NET, DEMANDS, TOLD, value), False)


class Held(unittest.TestCase):
    def check(self, net, poles, levels, name=None):
        order = Order(levels)
        fault = held_order_fault(net, poles, levels)
        self.assertEqual(held_fault(net, poles, order), fault, (name, poles, levels))
        found = held_drains(net, poles, order)
        self.assertEqual(found is None, fault is not None, (name, poles, levels))
        if found is None:
            return False
        self.assertEqual(list(found), list(net))
        self.assertTrue(all(type(value) is Amount for value in found.values()))
        self.assertTrue(plain_are_drains(net, levels, found), (name, poles, levels, found))
        balances = balances_of(net, found)
        self.assertTrue(all(balances[node] == 0 for node in net.nodes if node not in poles))
        self.assertIs(are_held_drains(net, poles, order, found), True)
        return True

    def test_all_orders_of_small_nets(self):
        for name, net, rng in cases(NETS, 5, 67):
            poles = some_poles(rng, net)
            told = [self.check(net, poles, levels, name) for levels in all_orders(net.nodes)]
            self.assertTrue(any(told), "some state has some order")

    def test_orders_of_greater_nets(self):
        for name, net, rng in cases({**FIVE, "great": GREAT}, 8, 68):
            poles = some_poles(rng, net)
            self.check(net, poles, some_levels(rng, net.nodes), name)
            heights = held_heights(net, poles, some_conductances(rng, net))
            self.assertTrue(self.check(net, poles, levels_of(heights), name))

    def test_drains_are_flows_of_a_state_with_this_order(self):
        for name, net, rng in cases(NETS, 3, 69):
            poles = some_poles(rng, net)
            top = max(map(fraction, poles.values()))
            for levels in all_orders(net.nodes):
                found = held_drains(net, poles, Order(levels))
                if found is None:
                    continue
                # Heights in this order in which the poles have theirs.
                heights, last = {}, top + 1
                for level in levels:
                    told = [fraction(poles[node]) for node in level if node in poles]
                    below = [fraction(poles[node]) for node in poles if fraction(poles[node]) < last]
                    last = told[0] if told else (last + max(below)) / 2
                    heights.update({node: Amount(last.numerator, last.denominator) for node in level})
                state = State(found, heights)
                self.assertTrue(fits_held(net, poles, curves_of(net, state), state), (name, poles, levels))

    def test_told_values(self):
        self.assertEqual(held_fault(NET, POLES, Order.of(["a", "b"], ["c"], ["d"])), ("node", "b"))
        self.assertEqual(held_fault(NET, POLES, TOLD.turned()), ("pole", "a", "d"))
        self.assertEqual(held_fault(NET, {"d": 1, "b": 2, "a": 2}, Order.of(["b"], ["a"], ["c"], ["d"])), ("pole", "a", "b"))
        self.assertEqual(held_fault(NET, {"d": 1, "b": 3, "a": 2}, Order.of(["a", "d"], ["b"], ["c"])), ("pole", "a", "b"))
        self.assertEqual(held_fault(NET, {"d": 1, "b": 2, "a": 2}, Order.of(["a", "b"], ["d"], ["c"])), ("node", "c"))
        self.assertIsNone(held_fault(NET, {"d": 1, "b": 2, "a": 2}, Order.of(["a", "b"], ["c"], ["d"])))
        self.assertIsNone(held_drains(NET, POLES, Order.of(["a", "b"], ["c"], ["d"])))

    def test_equal_heights_and_no_free_node(self):
        level = Order([["a", "b", "c", "d"]])
        for poles in ({"a": 1}, {"a": Amount(1, 2), "d": Amount(2, 4)}, dict.fromkeys("abcd", 5)):
            self.assertIsNone(held_fault(NET, poles, level))
            self.assertEqual(held_drains(NET, poles, level), dict.fromkeys(NET, Amount(0)))
        all_poles = {"a": 3, "b": 1, "c": 2, "d": 2}
        self.assertIsNone(held_fault(NET, all_poles, Order.of(["a"], ["c", "d"], ["b"])))
        found = held_drains(NET, all_poles, Order.of(["a"], ["c", "d"], ["b"]))
        self.assertEqual({pipe: sign(fraction(flow)) for pipe, flow in found.items()},
                         {"ab": 1, "ac": 1, "bc": -1, "bd": -1, "cd": 0})
        self.assertEqual(held_fault(NET, all_poles, TOLD), ("pole", "b", "d"))

    def test_are_held_drains_of_any_value(self):
        good = {"ab": 2, "ac": 1, "bc": Amount(-1, 2), "bd": Amount(5, 2), "cd": Amount(1, 2)}
        self.assertIs(are_held_drains(NET, POLES, TOLD, good), True)
        self.assertIs(are_held_drains(value=good, order=TOLD, poles=POLES, net=NET), True)
        # The poles do not stand as told; the flows are drains all the same.
        self.assertIs(are_held_drains(NET, {"a": 0, "d": 9}, TOLD, good), False)
        self.assertIs(are_held_drains(NET, {"a": 1, "d": 1}, TOLD, good), False)
        # A pole more may have any balance, a free node may not.
        self.assertIs(are_held_drains(NET, {"a": 9, "b": 1, "d": 0}, TOLD, {**good, "ab": 7}), True)
        self.assertIs(are_held_drains(NET, POLES, TOLD, {**good, "ab": 7}), False)
        self.assertIs(are_held_drains(NET, POLES, TOLD.turned(), {pipe: -flow for pipe, flow in good.items()}), False)
        less = {pipe: flow for pipe, flow in good.items() if pipe != "ab"}
        for value in [*STRANGE, {}, [], list(good), list(good.items()), less, {**good, "zz": 1}, {**less, "zz": 1},
                      {**good, "ab": None}, {**good, "ab": True}, {**good, "ab": 0}, 1, TOLD]:
            self.assertIs(are_held_drains(NET, POLES, TOLD, value), False)


class Errors(unittest.TestCase):
    def test_no_orders_of_the_net(self):
        for function, told in ((fed_drains, DEMANDS), (held_drains, POLES), (block, DEMANDS), (held_fault, POLES)):
            for value in NO_ORDERS:
                with self.assertRaises(InvalidOrder) as caught:
                    function(NET, told, value)
                self.assertIs(caught.exception.value, value)
        for function, told in ((are_fed_drains, DEMANDS), (are_held_drains, POLES), (is_block, DEMANDS)):
            for value in NO_ORDERS:
                with self.assertRaises(InvalidOrder) as caught:
                    function(NET, told, value, None)
                self.assertIs(caught.exception.value, value)

    def test_in_their_sequence(self):
        for function in (fed_drains, block):
            with self.assertRaises(InvalidDemands):
                function(NET, POLES, None)
            with self.assertRaises(Unbalanced):
                function(NET, {**DEMANDS, "a": 1}, None)
        for function in (held_drains, held_fault):
            with self.assertRaises(InvalidPoles):
                function(NET, {}, None)

    def test_orders_of_other_nets_with_the_same_nodes(self):
        other = Net({"p": ("d", "c"), "q": ("c", "b"), "r": ("b", "a")})
        self.assertEqual(block(other, DEMANDS, Order.of(["a"], ["b"], ["c"], ["d"])), None)


if __name__ == "__main__":
    unittest.main()
