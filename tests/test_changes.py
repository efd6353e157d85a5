"""surepipes/changes.py: what changes of demands, of poles and of pipes make surely greater or less."""

import itertools
import unittest

from plain import (GREAT, SMALL, STRANGE, Hostile, all_ways, balances_of, chance, ends_of, fed_heights, fraction,
                   held_heights, plain_fed, plain_held, sign, some_amount, some_conductances, some_demands, some_net,
                   some_poles)
from surepipes.amounts import Amount
from surepipes.changes import (demand_change, fed_closing, fed_opening, flow_change, held_closing, held_opening,
                               height_change, merged, pole_change)
from surepipes.errors import (InvalidDemands, InvalidPoles, IsBridge, NotSure, Unbalanced, UnknownNode, UnknownPipe)
from surepipes.nets import Net
from surepipes.ranges import Stretch, flow_stretch
from surepipes.several import find_curves

RNG = chance(100)
NETS = {**SMALL, **{f"chance {at}": some_net(RNG, 4, RNG.randrange(4, 8)) for at in range(4)}}
NET = SMALL["bridged"]
TAIL = SMALL["triangle with a tail"]
DEMANDS = {"a": 2, "b": 0, "c": 0, "d": -2}
POLES = {"a": 9, "d": 0}
WORDS = {"above": "greater", "level": "equal", "below": "less", "open": "open"}
TOLD = {1: "greater", 0: "equal", -1: "less"}
NO_NODES = [*STRANGE, "e", "ab", 0, ["a"], ("a",), {}]


def minus(after, before):
    return {key: fraction(after[key]) - fraction(before[key]) for key in before}


def amounts(table):
    return {key: Amount(value.numerator, value.denominator) for key, value in table.items()}


def unit(net, high, low):
    found = dict.fromkeys(net.nodes, 0)
    found[high] += 1
    found[low] -= 1
    return found


def plain_closing(net, pipe, answer, u, v, names):
    """Point 91 for a closed pipe; names tells what nodes are called in the net."""
    tail, head = net[pipe]
    left = Net({name: ends for name, ends in ends_of(net).items() if name != pipe})
    if answer == "level":
        return "equal"
    demands = unit(net, tail, head) if answer == "above" else unit(net, head, tail)
    return WORDS[plain_fed(left, demands, names[u], names[v])]


def plain_merged(net, poles):
    """The pipes of the merged net, and what all nodes are called in it."""
    names = {node: min(poles) if node in poles else node for node in net.nodes}
    pipes = {pipe: (names[tail], names[head]) for pipe, (tail, head) in ends_of(net).items() if names[tail] != names[head]}
    return pipes, names


def is_bridge(net, pipe):
    """Whether no way leads from the tail to the head but by this pipe."""
    tail, head = net[pipe]
    left = {name: ends for name, ends in ends_of(net).items() if name != pipe}
    reached = {tail}
    for _ in net.nodes:
        reached |= {far for ends in left.values() if set(ends) & reached for far in ends}
    return head not in reached


def states_by_bent_curves(net, pipes, flows, other):
    """Heights in two states by one set of curves that has these flows in these pipes; None if there are none."""
    if not pipes:
        return None
    small = Net({pipe: net[pipe] for pipe in pipes})
    found = find_curves(small, [{pipe: table[pipe] for pipe in pipes} for table in (flows, other)])
    return found if found is None else found[1]


class Demands(unittest.TestCase):
    def test_against_all_cuts(self):
        rng = chance(101)
        for net in NETS.values():
            for _ in range(3):
                before, after = some_demands(rng, net), some_demands(rng, net)
                for u, v in itertools.product(net.nodes, repeat=2):
                    wanted = WORDS[plain_fed(net, minus(after, before), u, v)]
                    self.assertEqual(demand_change(net, before, after, u, v), wanted, (net, before, after, u, v))
                for pipe in net:
                    found = flow_change(net, before, after, pipe)
                    self.assertIs(type(found), Stretch)
                    self.assertEqual(found, flow_stretch(net, amounts(minus(after, before)), pipe))

    def test_states_by_straight_curves(self):
        rng = chance(102)
        for net in [*NETS.values(), GREAT]:
            for _ in range(3):
                before, after = some_demands(rng, net), some_demands(rng, net)
                conductances = some_conductances(rng, net)
                old, new = (fed_heights(net, table, conductances) for table in (before, after))
                for u, v in itertools.combinations(net.nodes, 2):
                    change = new[u] - new[v] - old[u] + old[v]
                    self.assertIn(demand_change(net, before, after, u, v), ("open", TOLD[sign(change)]))

    def test_states_by_bent_curves(self):
        rng = chance(103)
        many = 0
        for net in NETS.values():
            for _ in range(25):
                old, new = ({pipe: rng.randrange(-3, 4) for pipe in net} for _ in range(2))
                heights = states_by_bent_curves(net, list(net), old, new)
                if heights is None:
                    continue
                many += 1
                before, after = (amounts(balances_of(net, flows)) for flows in (old, new))
                for u, v in itertools.combinations(net.nodes, 2):
                    change = heights[1][u] - heights[1][v] - heights[0][u] + heights[0][v]
                    self.assertIn(demand_change(net, before, after, u, v), ("open", TOLD[change.sign]))
                for pipe in net:
                    self.assertIn(new[pipe] - old[pipe], flow_change(net, before, after, pipe))
        self.assertGreater(many, 60)

    def test_told_values(self):
        more = {"a": 3, "b": 0, "c": 0, "d": -3}
        self.assertEqual([demand_change(NET, DEMANDS, more, *pair) for pair in ("ad", "ab", "bc", "ba", "aa")],
                         ["greater", "greater", "open", "less", "equal"])
        self.assertEqual(demand_change(NET, DEMANDS, DEMANDS, "a", "d"), "equal")
        self.assertEqual(str(flow_change(NET, DEMANDS, more, "bc")), "(-1, 1)")
        self.assertEqual(str(flow_change(NET, DEMANDS, DEMANDS, "bc")), "[0]")
        self.assertEqual(flow_change(pipe="bc", after=DEMANDS, before=more, net=NET), Stretch(-1, 1))
        self.assertEqual(demand_change(v="b", u="a", after=DEMANDS, before=more, net=NET), "less")
        self.assertEqual(str(flow_change(TAIL, dict.fromkeys("abcde", 0), {**dict.fromkeys("abcde", 0), "a": 1, "e": -1}, "cd")),
                         "[-1]")


class Poles(unittest.TestCase):
    def other(self, rng, poles):
        return {node: some_amount(rng) if rng.random() < 0.7 else poles[node] for node in reversed(list(poles))}

    def test_against_all_ways(self):
        rng = chance(104)
        for net in NETS.values():
            for _ in range(3):
                before = some_poles(rng, net)
                after = self.other(rng, before)
                more = minus(after, before)
                for u, v in itertools.product(net.nodes, repeat=2):
                    wanted = WORDS[plain_held(net, more, u, v)]
                    self.assertEqual(pole_change(net, before, after, u, v), wanted, (net, before, after, u, v))
                for node in net.nodes:
                    if node in before:
                        wanted = [more[node]]
                    else:
                        wanted = [more[pole] for pole in before if all_ways(net, node, pole, before)]
                    low, high = amounts(dict(enumerate((min(wanted), max(wanted))))).values()
                    self.assertEqual(height_change(net, before, after, node), Stretch(low, high))

    def test_states_by_straight_curves(self):
        rng = chance(105)
        for net in [*NETS.values(), GREAT]:
            for _ in range(3):
                before = some_poles(rng, net)
                after = self.other(rng, before)
                conductances = some_conductances(rng, net)
                old, new = (held_heights(net, table, conductances) for table in (before, after))
                for u, v in itertools.combinations(net.nodes, 2):
                    change = new[u] - new[v] - old[u] + old[v]
                    self.assertIn(pole_change(net, before, after, u, v), ("open", TOLD[sign(change)]))
                for node in net.nodes:
                    change = amounts({0: new[node] - old[node]})[0]
                    self.assertIn(change, height_change(net, before, after, node))

    def led(self, rng, net, poles):
        """Flows that lead from pole to pole."""
        flows = dict.fromkeys(net, 0)
        for _ in range(rng.randrange(1, 5)):
            way = rng.choice(all_ways(net, *rng.sample(poles, 2)))
            many = rng.randrange(1, 3)
            for one, other in zip(way, way[1:]):
                name = rng.choice(net.between(one, other))
                flows[name] += many if net[name] == (one, other) else -many
        return flows

    def test_states_by_bent_curves(self):
        rng = chance(106)
        many = 0
        for net in NETS.values():
            for _ in range(25 if len(net.nodes) > 2 else 0):
                poles = rng.sample(net.nodes, rng.randrange(2, len(net.nodes)))
                old, new = self.led(rng, net, poles), self.led(rng, net, poles)
                heights = states_by_bent_curves(net, list(net), old, new)
                if heights is None:
                    continue
                many += 1
                before, after = ({node: table[node] for node in poles} for table in heights)
                for u, v in itertools.combinations(net.nodes, 2):
                    change = heights[1][u] - heights[1][v] - heights[0][u] + heights[0][v]
                    self.assertIn(pole_change(net, before, after, u, v), ("open", TOLD[change.sign]))
                for node in net.nodes:
                    self.assertIn(heights[1][node] - heights[0][node], height_change(net, before, after, node))
        self.assertGreater(many, 60)

    def test_told_values(self):
        after = {"d": 1, "a": 12}
        self.assertEqual([pole_change(NET, POLES, after, *pair) for pair in ("ad", "ab", "bc", "bd", "dd")],
                         ["greater", "greater", "open", "greater", "equal"])
        self.assertEqual([str(height_change(NET, POLES, after, node)) for node in "abd"], ["[3]", "(1, 3)", "[1]"])
        self.assertEqual(str(height_change(NET, POLES, {"a": 8, "d": -1}, "c")), "[-1]")
        self.assertEqual(pole_change(NET, POLES, {"a": 8, "d": -1}, "c", "a"), "equal")
        self.assertEqual(pole_change(v="b", u="a", after=POLES, before=after, net=NET), "less")
        self.assertEqual(height_change(node="b", after=POLES, before=after, net=NET), Stretch(-3, -1))

    def test_wrong_heights_behind_the_change(self):
        rows = [(value, None) for value in [*STRANGE, {}, [], {"a": 1}, {"a": 1, "b": 1}, {"a": 1, "d": 1, "b": 1},
                                            [("a", 1), ("d", 1)], {"a": 1, "z": 1}, {"a": None, "z": 1}]]
        for wrong in [*STRANGE, "1", [1], {}]:
            rows += [({"a": wrong, "d": 1}, "a"), ({"d": 1, "a": wrong}, "a"), ({"d": wrong, "a": None}, "d")]
        for value, node in rows:
            for call in (lambda: pole_change(NET, POLES, value, None, None), lambda: height_change(NET, POLES, value, None)):
                with self.assertRaises(InvalidPoles) as caught:
                    call()
                self.assertEqual(caught.exception.node, node)


class Closing(unittest.TestCase):
    def check_fed(self, net, demands):
        for pipe, (tail, head) in ends_of(net).items():
            answer = plain_fed(net, demands, tail, head)
            for u, v in itertools.product(net.nodes, repeat=2):
                told = (net, demands, pipe, u, v)
                if is_bridge(net, pipe):
                    with self.assertRaises(IsBridge):
                        fed_closing(*told)
                elif answer == "open":
                    with self.assertRaises(NotSure):
                        fed_closing(*told)
                else:
                    wanted = plain_closing(net, pipe, answer, u, v, dict(zip(net.nodes, net.nodes)))
                    self.assertEqual(fed_closing(*told), wanted, told)

    def check_held(self, net, poles):
        pipes, names = plain_merged(net, poles)
        for pipe, (tail, head) in ends_of(net).items():
            answer = plain_held(net, poles, tail, head)
            for u, v in itertools.product(net.nodes, repeat=2):
                told = (net, poles, pipe, u, v)
                if is_bridge(net, pipe):
                    with self.assertRaises(IsBridge):
                        held_closing(*told)
                elif answer == "open":
                    with self.assertRaises(NotSure):
                        held_closing(*told)
                elif pipe not in pipes:
                    self.assertEqual(held_closing(*told), "equal")
                else:
                    wanted = plain_closing(Net(pipes), pipe, answer, u, v, names)
                    self.assertEqual(held_closing(*told), wanted, told)

    def test_against_all_cuts(self):
        rng = chance(107)
        for net in NETS.values():
            for _ in range(2):
                self.check_fed(net, some_demands(rng, net))
                self.check_held(net, some_poles(rng, net))

    def test_states_by_straight_curves(self):
        rng = chance(108)
        seen = set()
        for net in [*NETS.values(), GREAT]:
            for _ in range(3):
                demands, poles, conductances = some_demands(rng, net), some_poles(rng, net), some_conductances(rng, net)
                for pipe in net:
                    if is_bridge(net, pipe):
                        continue
                    left = Net({name: ends for name, ends in ends_of(net).items() if name != pipe})
                    for function, heights, table in ((fed_closing, fed_heights, demands), (held_closing, held_heights, poles)):
                        old, new = heights(net, table, conductances), heights(left, table, conductances)
                        u, v = rng.choice(net.nodes), rng.choice(net.nodes)
                        try:
                            found = function(net, table, pipe, u, v)
                        except NotSure:
                            continue
                        seen.add(found)
                        change = new[u] - new[v] - old[u] + old[v]
                        self.assertIn(found, ("open", TOLD[sign(change)]), (net, table, pipe, u, v))
        self.assertEqual(seen, {"greater", "equal", "less", "open"})

    def test_states_by_bent_curves(self):
        rng = chance(109)
        many = 0
        for net in NETS.values():
            for pipe in net:
                if is_bridge(net, pipe):
                    continue
                left = net.without(pipe)
                tail, head = net[pipe]
                for _ in range(25):
                    old = {name: rng.randrange(-2, 3) for name in net}
                    new = {name: old[name] for name in left}
                    way = rng.choice(all_ways(left, tail, head))
                    for one, other in zip(way, way[1:]):
                        name = rng.choice(left.between(one, other))
                        new[name] += old[pipe] if left[name] == (one, other) else -old[pipe]
                    heights = states_by_bent_curves(net, list(left), old, new)
                    if heights is None or (heights[0][tail] - heights[0][head]).sign != sign(old[pipe]):
                        continue
                    demands = amounts(balances_of(net, old))
                    self.assertEqual(balances_of(left, new), {node: fraction(demands[node]) for node in net.nodes})
                    for u, v in itertools.combinations(net.nodes, 2):
                        change = heights[1][u] - heights[1][v] - heights[0][u] + heights[0][v]
                        try:
                            found = fed_closing(net, demands, pipe, u, v)
                        except NotSure:
                            continue
                        many += 1
                        self.assertIn(found, ("open", TOLD[change.sign]), (net, demands, pipe, u, v))
        self.assertGreater(many, 200)

    def test_told_values(self):
        self.assertEqual(fed_closing(NET, DEMANDS, "ab", "c", "d"), "greater")
        self.assertEqual(fed_closing(v="d", u="c", pipe="ab", demands=DEMANDS, net=NET), "greater")
        # If the demands lead the other way, so does the change.
        self.assertEqual(fed_closing(NET, {"a": -2, "b": 0, "c": 0, "d": 2}, "ab", "c", "d"), "less")
        self.assertEqual(fed_closing(NET, dict.fromkeys("abcd", 0), "ab", "c", "d"), "equal")
        self.assertEqual(fed_closing(NET, DEMANDS, "ab", "c", "c"), "equal")
        self.assertEqual(held_closing(NET, POLES, "ab", "b", "d"), "less")
        self.assertEqual(held_closing(NET, POLES, "ab", "a", "d"), "equal")
        self.assertEqual(held_closing(v="c", u="a", pipe="ab", poles=POLES, net=NET), "greater")
        self.assertEqual(held_closing(NET, {"a": 1, "b": 0, "d": 0}, "ab", "c", "d"), "equal")
        self.assertEqual(held_closing(NET, {"a": 1, "b": 0, "d": 0}, "ac", "c", "d"), "less")
        self.assertEqual(held_closing(NET, {"a": 1}, "ac", "c", "d"), "equal")

    def test_no_free_node(self):
        poles = {"a": 1, "b": 2, "c": 3, "d": 4}
        for pipe in NET:
            self.assertEqual(held_closing(NET, poles, pipe, "a", "d"), "equal")
        self.assertEqual(held_opening(NET, poles, "a", "d", "a", "b"), "equal")
        with self.assertRaises(IsBridge):
            held_closing(SMALL["one pipe"], {"a": 1, "b": 2}, "p", "a", "b")

    def test_not_sure(self):
        for function, table in ((fed_closing, DEMANDS), (held_closing, POLES)):
            with self.assertRaises(NotSure) as caught:
                function(NET, table, "bc", "a", "d")
            self.assertEqual(caught.exception.value, "bc")

    def test_errors_in_their_sequence(self):
        tail = {**dict.fromkeys("abcde", 0), "a": 1, "b": -1}
        for function, table, small in ((fed_closing, DEMANDS, tail), (held_closing, POLES, {"a": 1, "b": 0})):
            with self.assertRaises((InvalidDemands, InvalidPoles)):
                function(NET, {}, None, None, None)
            for value in [*STRANGE, "a", "zz", 1, ["ab"]]:
                with self.assertRaises(UnknownPipe) as caught:
                    function(NET, table, value, None, None)
                self.assertIs(caught.exception.value, value)
            with self.assertRaises(IsBridge) as caught:
                function(TAIL, small, "cd", None, None)
            self.assertEqual(caught.exception.pipe, "cd")
            for value in NO_NODES:
                for pipe in ("ab", "bc"):
                    with self.assertRaises(UnknownNode) as caught:
                        function(NET, table, pipe, value, "zz")
                    self.assertIs(caught.exception.value, value)
                    with self.assertRaises(UnknownNode) as caught:
                        function(NET, table, pipe, "a", value)
                    self.assertIs(caught.exception.value, value)

    def test_a_bridge_of_the_net_that_is_none_of_the_merged_net(self):
        path = SMALL["path"]
        with self.assertRaises(IsBridge):
            held_closing(path, {"a": 2, "d": 1}, "p", "b", "c")


class Opening(unittest.TestCase):
    def check(self, function, net, table, answer, pipes, names):
        for tail, head in itertools.product(net.nodes, repeat=2):
            for u, v in itertools.product(net.nodes, repeat=2):
                told = (net, table, tail, head, u, v)
                word = answer(net, table, tail, head)
                if word == "open":
                    with self.assertRaises(NotSure) as caught:
                        function(*told)
                    self.assertEqual(caught.exception.value, (tail, head))
                    continue
                high, low = (head, tail) if word == "above" else (tail, head)
                wanted = "equal"
                if word != "level" and names[tail] != names[head]:
                    small = Net(pipes)
                    wanted = WORDS[plain_fed(small, unit(small, names[high], names[low]), names[u], names[v])]
                self.assertEqual(function(*told), wanted, told)

    def test_against_all_cuts(self):
        rng = chance(110)
        for net in NETS.values():
            if len(net.nodes) < 5:
                self.check(fed_opening, net, some_demands(rng, net), plain_fed, ends_of(net), dict(zip(net.nodes, net.nodes)))
                poles = some_poles(rng, net)
                self.check(held_opening, net, poles, plain_held, *plain_merged(net, poles))

    def test_states_by_straight_curves(self):
        rng = chance(111)
        seen = set()
        for net in [*NETS.values(), GREAT]:
            for _ in range(25):
                demands, poles, conductances = some_demands(rng, net), some_poles(rng, net), some_conductances(rng, net)
                tail, head = rng.sample(net.nodes, 2)
                u, v = rng.choice(net.nodes), rng.choice(net.nodes)
                more = Net({**ends_of(net), "zzz": (tail, head)}) if len(net) < 16 else None
                if more is None:
                    continue
                for function, heights, table in ((fed_opening, fed_heights, demands), (held_opening, held_heights, poles)):
                    old = heights(net, table, conductances)
                    new = heights(more, table, {**conductances, "zzz": rng.choice([1, 100])})
                    try:
                        found = function(net, table, tail, head, u, v)
                    except NotSure:
                        continue
                    seen.add(found)
                    change = new[u] - new[v] - old[u] + old[v]
                    self.assertIn(found, ("open", TOLD[sign(change)]), (net, table, tail, head, u, v))
        self.assertEqual(seen, {"greater", "equal", "less", "open"})

    def test_eight_nodes_sixteen_pipes(self):
        demands = {**dict.fromkeys(GREAT.nodes, 0), "a": 1, "g": -1}
        self.assertEqual(fed_opening(GREAT, demands, "a", "g", "a", "g"), "less")
        self.assertEqual(fed_opening(GREAT, demands, "g", "a", "a", "g"), "less")
        self.assertEqual(held_opening(GREAT, {"a": 1, "g": 0}, "a", "c", "c", "g"), "greater")

    def test_told_values(self):
        self.assertEqual(fed_opening(NET, DEMANDS, "a", "d", "a", "b"), "less")
        self.assertEqual(fed_opening(v="b", u="a", head="d", tail="a", demands=DEMANDS, net=NET), "less")
        self.assertEqual(fed_opening(NET, DEMANDS, "b", "b", "a", "b"), "equal")
        self.assertEqual(held_opening(NET, POLES, "a", "d", "b", "c"), "equal")
        self.assertEqual(held_opening(v="d", u="b", head="b", tail="a", poles=POLES, net=NET), "greater")
        self.assertEqual(held_opening(NET, POLES, "c", "c", "b", "d"), "equal")

    def test_errors_in_their_sequence(self):
        for function, table in ((fed_opening, DEMANDS), (held_opening, POLES)):
            with self.assertRaises((InvalidDemands, InvalidPoles)):
                function(NET, None, None, None, None, None)
            for at in range(4):
                for value in NO_NODES:
                    for ends in ("bcad", "adbc"):
                        nodes = [*ends[:at], value, *["zz"] * (3 - at)]
                        with self.assertRaises(UnknownNode) as caught:
                            function(NET, table, *nodes)
                        self.assertIs(caught.exception.value, value)
            with self.assertRaises(NotSure) as caught:
                function(NET, table, "b", "c", "a", "d")
            self.assertEqual(caught.exception.value, ("b", "c"))


class Merged(unittest.TestCase):
    def test_against_the_definition(self):
        rng = chance(112)
        for net in [*NETS.values(), GREAT]:
            for _ in range(4):
                poles = some_poles(rng, net)
                found = merged(net, poles)
                if len(poles) == len(net.nodes):
                    self.assertIsNone(found)
                    continue
                self.assertTrue(type(found) is tuple and len(found) == 2)
                self.assertEqual(found, (Net(plain_merged(net, poles)[0]), min(poles)))

    def test_told_values(self):
        net, name = merged(NET, {"d": 1, "b": 2})
        self.assertEqual((ends_of(net), name), ({"ab": ("a", "b"), "ac": ("a", "c"), "bc": ("b", "c"), "cd": ("c", "b")}, "b"))
        self.assertEqual(merged(poles={"c": 1}, net=NET), (NET, "c"))
        self.assertIsNone(merged(NET, dict.fromkeys("abcd", 1)))
        self.assertEqual(ends_of(merged(SMALL["three pipes"], {"b": 1})[0]), ends_of(SMALL["three pipes"]))

    def test_errors(self):
        for value, node in ((None, None), ({}, None), ({"z": 1}, "z"), ({"a": Hostile()}, "a")):
            with self.assertRaises(InvalidPoles) as caught:
                merged(NET, value)
            self.assertEqual(caught.exception.node, node)


class Sequence(unittest.TestCase):
    def test_of_demands(self):
        unbalanced = {**DEMANDS, "a": 1}
        for function, more in ((demand_change, 2), (flow_change, 1)):
            with self.assertRaises(Unbalanced):
                function(NET, unbalanced, None, *[None] * more)
            with self.assertRaises(InvalidDemands):
                function(NET, DEMANDS, None, *[None] * more)
            with self.assertRaises((UnknownNode, UnknownPipe)):
                function(NET, DEMANDS, DEMANDS, *[None] * more)

    def test_nothing_is_changed(self):
        before, after = {"d": 0, "a": 9}, {"d": Amount(1), "a": 9}
        pole_change(NET, before, after, "a", "b")
        merged(NET, before)
        self.assertEqual((list(before.items()), list(after.items())), ([("d", 0), ("a", 9)], [("d", Amount(1)), ("a", 9)]))


if __name__ == "__main__":
    unittest.main()
