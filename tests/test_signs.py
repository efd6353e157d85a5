"""surepipes/signs.py: answers, directions, lower ways, unlike cuts, stretches of heights, and what gives."""

import itertools
import unittest

from plain import (GREAT, SMALL, STRANGE, all_cuts, all_tuples, all_ways, answer_of, balances_of, chance, ends_of,
                   fed_heights, flow_of, fraction, held_heights, plain_fed, plain_lower_ways, sign, some_conductances,
                   some_demands, some_net, some_poles)
from surepipes.amounts import Amount
from surepipes.errors import InvalidPoles, InvalidWord, UnknownPole
from surepipes.nets import Net
from surepipes.ranges import Stretch
from surepipes.signs import (are_lower_ways, fed_compare, fed_direction, gives, held_compare, held_direction,
                             height_stretch, lower_ways, opposite, unlike_cuts)

RNG = chance(30)
NETS = {**SMALL, **{f"chance {at}": some_net(RNG, 5, RNG.randrange(5, 9)) for at in range(6)}}
NET = SMALL["bridged"]
DEMANDS = {"a": 2, "b": 0, "c": 0, "d": -2}
POLES = {"a": 9, "d": 0}
DIRECTIONS = {"above": "along", "level": "none", "below": "against", "open": "open"}
WORDS = {1: "above", 0: "level", -1: "below"}


def fed_cases(many):
    rng = chance(31)
    for name, net in NETS.items():
        for _ in range(many):
            yield name, net, some_demands(rng, net)


def held_cases(many):
    rng = chance(32)
    for name, net in NETS.items():
        for _ in range(many):
            yield name, net, some_poles(rng, net)


class Words(unittest.TestCase):
    def test_opposite(self):
        for one, other in (("above", "below"), ("level", "level"), ("open", "open")):
            self.assertEqual((opposite(one), opposite(answer=other)), (other, one))

    def test_opposite_of_other_values(self):
        for value in [*STRANGE, "along", "none", "Above", "above ", ["above"], ("above",), 0, 1, {}, Amount(1), ">"]:
            with self.assertRaises(InvalidWord) as caught:
                opposite(value)
            self.assertIs(caught.exception.value, value)


class Fed(unittest.TestCase):
    def test_against_all_sets_of_nodes(self):
        seen = set()
        for name, net, demands in fed_cases(5):
            for u in net.nodes:
                for v in net.nodes:
                    wanted = plain_fed(net, demands, u, v)
                    self.assertEqual(fed_compare(net, demands, u, v), wanted, (name, demands, u, v))
                    self.assertEqual(fed_compare(net, demands, v, u), opposite(wanted))
                    seen.add(wanted)
        self.assertEqual(seen, set(DIRECTIONS))

    def test_a_node_and_itself(self):
        for node in "abcd":
            self.assertEqual(fed_compare(NET, DEMANDS, node, node), "level")
            self.assertIsNone(unlike_cuts(NET, DEMANDS, node, node))

    def test_heights_by_straight_curves_are_as_the_answers_tell(self):
        rng = chance(33)
        for name, net, demands in fed_cases(3):
            for _ in range(6):
                conductances = some_conductances(rng, net)
                heights = fed_heights(net, demands, conductances)
                for u, v in itertools.combinations(net.nodes, 2):
                    found = fed_compare(net, demands, u, v)
                    self.assertIn(found, ("open", WORDS[sign(heights[u] - heights[v])]), (name, demands, u, v))

    def test_directions(self):
        rng = chance(34)
        for name, net, demands in fed_cases(3):
            heights = fed_heights(net, demands, dict.fromkeys(net, 1))
            for pipe, (tail, head) in ends_of(net).items():
                found = fed_direction(net, demands, pipe)
                self.assertEqual(found, DIRECTIONS[fed_compare(net, demands, tail, head)], (name, pipe))
                flow = flow_of(net, heights, some_conductances(rng, net), pipe)
                self.assertIn(found, ("open", DIRECTIONS[WORDS[sign(flow)]]))
        self.assertEqual([fed_direction(NET, DEMANDS, pipe) for pipe in NET],
                         ["along", "along", "open", "along", "along"])

    def test_a_bridge_and_the_demand_0(self):
        net = SMALL["triangle with a tail"]
        demands = {"a": 1, "b": -1, "c": 0, "d": 0, "e": 0}
        self.assertEqual(fed_direction(net, demands, "cd"), "none")
        self.assertEqual([fed_compare(net, demands, "c", node) for node in "abcde"],
                         ["below", "above", "level", "level", "level"])
        self.assertEqual(fed_compare(net, dict.fromkeys(net.nodes, 0), "a", "b"), "level")

    def test_unlike_cuts(self):
        for name, net, demands in fed_cases(4):
            for u in net.nodes:
                for v in net.nodes:
                    found = unlike_cuts(net, demands, u, v)
                    self.assertEqual(found is not None, plain_fed(net, demands, u, v) == "open", (name, demands, u, v))
                    if found is not None:
                        self.assertIs(type(found), tuple)
                        cuts = all_cuts(net, u, v)
                        self.assertTrue(len(found) == 2 and found[0] in cuts and found[1] in cuts)
                        sums = [sum(fraction(demands[node]) for node in cut) for cut in found]
                        self.assertTrue(sums[0] > 0 > sums[1])

    def test_eight_nodes_and_sixteen_pipes(self):
        demands = {**dict.fromkeys(GREAT.nodes, 0), "a": 1, "g": -1}
        for u, v in itertools.combinations(GREAT.nodes, 2):
            self.assertEqual(fed_compare(GREAT, demands, u, v), plain_fed(GREAT, demands, u, v))


class Held(unittest.TestCase):
    def test_against_all_pairs_of_ways(self):
        seen = set()
        for name, net, poles in held_cases(6):
            for u in net.nodes:
                for v in net.nodes:
                    lower, higher = plain_lower_ways(net, poles, u, v), plain_lower_ways(net, poles, v, u)
                    wanted = answer_of(bool(higher), bool(lower))
                    self.assertEqual(held_compare(net, poles, u, v), wanted, (name, poles, u, v))
                    seen.add(wanted)
                    found = lower_ways(net, poles, u, v)
                    if lower:
                        self.assertIn(found, lower)
                        self.assertIs(are_lower_ways(net, poles, u, v, found), True)
                    else:
                        self.assertIsNone(found, (name, poles, u, v))
        self.assertEqual(seen, set(DIRECTIONS))

    def test_are_lower_ways_against_all_pairs_of_tuples(self):
        rng = chance(35)
        for name in ("two pipes", "path", "triangle", "bridged", "square"):
            net = NETS[name]
            tuples = [(), *all_tuples(net), (net.nodes[0],) * 2]
            for _ in range(3):
                poles = some_poles(rng, net)
                u, v = rng.choice(net.nodes), rng.choice(net.nodes)
                right = plain_lower_ways(net, poles, u, v)
                for value in itertools.product(tuples, repeat=2):
                    self.assertIs(are_lower_ways(net, poles, u, v, value), value in right, (name, poles, u, v, value))

    def test_are_lower_ways_of_any_value(self):
        right = (("b", "d"), ("c", "a"))
        self.assertIs(are_lower_ways(NET, POLES, "b", "c", right), True)
        self.assertIs(are_lower_ways(value=right, v="c", u="b", poles=POLES, net=NET), True)
        for value in [*STRANGE, (), [], list(right), (["b", "d"], ("c", "a")), (("b", "d"), ["c", "a"]), right[:1],
                      (*right, ("b", "d")), (("b", "d"), None), (("b", 1), ("c", "a")), (("b", ["d"]), ("c", "a")),
                      (("b",), ("c", "a")), (("b", "d"), ("c",)), (("c", "d"), ("b", "a")), (("b", "a"), ("c", "d")),
                      (("b", "z"), ("c", "a")), (("d", "b"), ("a", "c")), (("b", "c", "d"), ("c", "a")), "bd", 1,
                      {("b", "d"): 1, ("c", "a"): 2}, (STRANGE[-2], ("c", "a")), ((STRANGE[-2], "d"), ("c", "a")),
                      (("b", "d"), ("c", "b", "a")), (("b", "c", "d"), ("c", "b", "a")), (("b", "d", "b"), ("c", "a"))]:
            self.assertIs(are_lower_ways(NET, POLES, "b", "c", value), False)

    def test_lower_ways_lead_to_different_heights(self):
        ways = (("b", "d"), ("c", "a"))
        for top, right in ((1, True), (Amount(2, 4), False), (0, False)):
            poles = {"a": top, "d": Amount(1, 2)}
            self.assertIs(are_lower_ways(NET, poles, "b", "c", ways), right)
            self.assertIs(are_lower_ways(NET, poles, "d", "a", (("d",), ("a",))), right)
            self.assertEqual(lower_ways(NET, poles, "b", "c") is not None, top != Amount(1, 2))

    def test_poles_as_ends(self):
        self.assertEqual(lower_ways(NET, POLES, "d", "a"), (("d",), ("a",)))
        self.assertIsNone(lower_ways(NET, POLES, "a", "d"))
        self.assertEqual([held_compare(NET, POLES, "a", node) for node in "abcd"], ["level", "above", "above", "above"])
        self.assertEqual([held_compare(NET, POLES, node, "d") for node in "abcd"], ["above", "above", "above", "level"])
        # A way from a pole cannot go on to another one.
        three = {"a": 1, "b": 5, "d": 0}
        self.assertEqual(held_compare(NET, three, "a", "b"), "below")
        self.assertEqual(held_compare(NET, three, "a", "c"), "open")
        self.assertEqual(held_compare(NET, three, "b", "c"), "above")
        self.assertEqual(held_compare(NET, {"a": 1, "d": Amount(2, 2)}, "a", "d"), "level")
        self.assertEqual(held_compare(NET, {"a": 1, "d": 1}, "b", "d"), "level")

    def test_one_pole_alone(self):
        for u, v in itertools.product("abcd", repeat=2):
            self.assertEqual(held_compare(NET, {"b": -3}, u, v), "level")

    def test_heights_by_straight_curves_are_as_the_answers_tell(self):
        rng = chance(36)
        for name, net, poles in held_cases(3):
            for _ in range(6):
                conductances = some_conductances(rng, net)
                heights = held_heights(net, poles, conductances)
                for u, v in itertools.combinations(net.nodes, 2):
                    found = held_compare(net, poles, u, v)
                    self.assertIn(found, ("open", WORDS[sign(heights[u] - heights[v])]), (name, poles, u, v))

    def test_directions(self):
        for name, net, poles in held_cases(3):
            for pipe, (tail, head) in ends_of(net).items():
                found = held_direction(net, poles, pipe)
                self.assertEqual(found, DIRECTIONS[held_compare(net, poles, tail, head)], (name, pipe))
        self.assertEqual([held_direction(NET, POLES, pipe) for pipe in NET],
                         ["along", "along", "open", "along", "along"])
        self.assertEqual(held_direction(NET, {"d": 1}, "ab"), "none")

    def test_eight_nodes_and_sixteen_pipes(self):
        poles = {"a": 3, "g": 1, "d": 2}
        for u, v in itertools.combinations(GREAT.nodes, 2):
            lower, higher = plain_lower_ways(GREAT, poles, u, v), plain_lower_ways(GREAT, poles, v, u)
            self.assertEqual(held_compare(GREAT, poles, u, v), answer_of(bool(higher), bool(lower)))


class Stretches(unittest.TestCase):
    def test_heights(self):
        for name, net, poles in held_cases(6):
            for node in net.nodes:
                if node in poles:
                    wanted = Stretch(poles[node], poles[node])
                else:
                    sees = [pole for pole in poles if all_ways(net, node, pole, poles)]
                    ends = sorted((poles[pole] for pole in sees), key=fraction)
                    wanted = Stretch(ends[0], ends[-1])
                self.assertEqual(height_stretch(net, poles, node), wanted, (name, poles, node))

    def test_heights_by_straight_curves_are_in_the_stretch(self):
        rng = chance(37)
        for name, net, poles in held_cases(3):
            for _ in range(4):
                heights = held_heights(net, poles, some_conductances(rng, net))
                for node in net.nodes:
                    height = Amount(heights[node].numerator, heights[node].denominator)
                    self.assertIn(height, height_stretch(net, poles, node), (name, poles, node))

    def test_told_values(self):
        self.assertEqual([str(height_stretch(NET, POLES, node)) for node in "abcd"], ["[9]", "(0, 9)", "(0, 9)", "[0]"])
        path = SMALL["path"]
        self.assertEqual([str(height_stretch(path, {"b": 1, "c": Amount(1, 2)}, node)) for node in "abcd"],
                         ["[1]", "[1]", "[1/2]", "[1/2]"])


class Giving(unittest.TestCase):
    def test_against_all_ways(self):
        seen = set()
        for name, net, poles in held_cases(8):
            for pole in poles:
                sees = [fraction(poles[other]) for other in poles if all_ways(net, pole, other, poles)]
                lower = any(height < fraction(poles[pole]) for height in sees)
                higher = any(height > fraction(poles[pole]) for height in sees)
                wanted = {(True, True): "open", (True, False): "gives", (False, True): "takes",
                          (False, False): "none"}[lower, higher]
                self.assertEqual(gives(net, poles, pole), wanted, (name, poles, pole))
                seen.add(wanted)
        self.assertEqual(seen, {"open", "gives", "takes", "none"})

    def test_balances_by_straight_curves_are_so(self):
        rng = chance(38)
        for name, net, poles in held_cases(3):
            for _ in range(5):
                conductances = some_conductances(rng, net)
                heights = held_heights(net, poles, conductances)
                balances = balances_of(net, {pipe: flow_of(net, heights, conductances, pipe) for pipe in net})
                for pole in poles:
                    told = {1: "gives", 0: "none", -1: "takes"}[sign(balances[pole])]
                    self.assertIn(gives(net, poles, pole), ("open", told), (name, poles, pole))

    def test_of_what_is_no_pole(self):
        for value in [*STRANGE, "b", "c", "z", 1, ["a"], ("a",), {}]:
            with self.assertRaises(UnknownPole) as caught:
                gives(NET, POLES, value)
            self.assertIs(caught.exception.value, value)
            with self.assertRaises(InvalidPoles):
                gives(NET, {"z": 1}, value)
        self.assertEqual([gives(net=NET, poles=POLES, node=pole) for pole in "ad"], ["gives", "takes"])
        pair = Net.of(p=("a", "b"))
        self.assertEqual([gives(pair, {"a": 1}, "a"), gives(pair, {"a": 1, "b": 1}, "b")], ["none", "none"])


if __name__ == "__main__":
    unittest.main()
