"""surepipes/examples.py: conductances by which two nodes are as they can be."""

import itertools
import unittest

from plain import (GREAT, SMALL, STRANGE, chance, fed_heights, held_heights, sign, some_amount, some_demands, some_net,
                   some_poles)
from surepipes.amounts import Amount
from surepipes.errors import InvalidDemands, InvalidPoles, InvalidWord, UnknownNode
from surepipes.examples import fed_example, held_example
from surepipes.signs import fed_compare, held_compare
from surepipes.states import fed_state, held_state

RNG = chance(40)
NETS = {**SMALL, **{f"chance {at}": some_net(RNG, 5, RNG.randrange(5, 9)) for at in range(6)}}
NET = SMALL["bridged"]
DEMANDS = {"a": 2, "b": 0, "c": 0, "d": -2}
POLES = {"a": 9, "d": 0}
SIGNS = {"above": 1, "level": 0, "below": -1}
FAR = (9999999967, 9999999943, 9999999929, 9999999881, 9999999851, 9999999833, 9999999817)


class Examples(unittest.TestCase):
    def check(self, net, found, heights, u, word, v):
        self.assertEqual(list(found), list(net))
        self.assertTrue(all(type(value) is Amount and value.sign == 1 for value in found.values()))
        self.assertEqual(sign(heights[u] - heights[v]), SIGNS[word])
        for value in found.values():
            self.assertLess(max(value.top, value.bottom), 10 ** 1000)

    def check_fed(self, net, demands, u, word, v):
        found = fed_example(net, demands, u, word, v)
        if fed_compare(net, demands, u, v) in ("open", word):
            self.check(net, found, fed_heights(net, demands, found), u, word, v)
        else:
            self.assertIsNone(found)

    def check_held(self, net, poles, u, word, v):
        found = held_example(net, poles, u, word, v)
        if held_compare(net, poles, u, v) in ("open", word):
            self.check(net, found, held_heights(net, poles, found), u, word, v)
        else:
            self.assertIsNone(found)

    def test_fed(self):
        rng = chance(41)
        for net in NETS.values():
            for _ in range(3):
                demands = some_demands(rng, net)
                for u, v in itertools.product(net.nodes, repeat=2):
                    for word in SIGNS:
                        self.check_fed(net, demands, u, word, v)

    def test_held(self):
        rng = chance(42)
        for net in NETS.values():
            for _ in range(3):
                poles = some_poles(rng, net)
                for u, v in itertools.product(net.nodes, repeat=2):
                    for word in SIGNS:
                        self.check_held(net, poles, u, word, v)

    def test_eight_nodes_and_sixteen_pipes(self):
        rng = chance(43)
        demands = some_demands(rng, GREAT)
        poles = {"a": 3, "g": some_amount(rng), "d": 2}
        for u, v in (("a", "g"), ("b", "h"), ("c", "e"), ("f", "b"), ("h", "d")):
            for word in SIGNS:
                self.check_fed(GREAT, demands, u, word, v)
                self.check_held(GREAT, poles, u, word, v)

    def test_numbers_with_many_digits(self):
        rng = chance(44)
        demands = {node: Amount(rng.choice((-1, 1)) * rng.randrange(10 ** 19, 10 ** 20), prime)
                   for node, prime in zip("abcdefg", FAR)}
        demands["h"] = -Amount.sum_of(*demands.values())
        near = [Amount(10 ** 19 // prime, 1) + Amount(at, prime) for at, prime in enumerate(FAR)]
        poles = {"a": near[0], "c": near[1], "e": near[2], "g": 10 ** 20 - 1}
        for u, v in (("a", "g"), ("b", "h"), ("c", "e"), ("f", "b"), ("h", "d")):
            for word in SIGNS:
                self.check_fed(GREAT, demands, u, word, v)
                self.check_held(GREAT, poles, u, word, v)

    def test_states_of_the_returned_conductances(self):
        for word in SIGNS:
            fed = fed_state(NET, DEMANDS, fed_example(NET, DEMANDS, "b", word, "c"))
            held = held_state(NET, POLES, held_example(NET, POLES, "b", word, "c"))
            for state in (fed, held):
                self.assertEqual((state.heights["b"] - state.heights["c"]).sign, SIGNS[word])

    def test_a_node_and_itself(self):
        for node in "abcd":
            for told, table in ((fed_example, DEMANDS), (held_example, POLES)):
                self.assertIsNone(told(NET, table, node, "above", node))
                self.assertIsNone(told(NET, table, node, "below", node))
                self.assertEqual(list(told(NET, table, node, "level", node)), list(NET))

    def test_two_poles(self):
        for poles, right in ((POLES, "above"), ({"a": 0, "d": 9}, "below"), ({"a": Amount(1, 2), "d": Amount(2, 4)}, "level")):
            for word in SIGNS:
                found = held_example(NET, poles, "a", word, "d")
                self.assertEqual(found is not None, word == right)
                if found is not None:
                    self.assertEqual(list(found), list(NET))

    def test_by_the_names_of_the_parameters(self):
        self.assertEqual(fed_example(v="c", word="above", u="b", demands=DEMANDS, net=NET),
                         fed_example(NET, DEMANDS, "b", "above", "c"))
        self.assertEqual(held_example(v="c", word="below", u="b", poles=POLES, net=NET),
                         held_example(NET, POLES, "b", "below", "c"))


class Words(unittest.TestCase):
    def test_wrong_ones(self):
        for value in [*STRANGE, "open", "along", "Above", ">", "abovelevel", ["above"], ("above",), 0, 1, {}]:
            for told, table in ((fed_example, DEMANDS), (held_example, POLES)):
                for v in ("c", "z", None):
                    with self.assertRaises(InvalidWord) as caught:
                        told(NET, table, "b", value, v)
                    self.assertIs(caught.exception.value, value)

    def test_errors_in_their_sequence(self):
        for told, table, error in ((fed_example, DEMANDS, InvalidDemands), (held_example, POLES, InvalidPoles)):
            with self.assertRaises(error):
                told(NET, {}, "z", "open", "z")
            with self.assertRaises(UnknownNode) as caught:
                told(NET, table, "y", "open", "z")
            self.assertEqual(caught.exception.value, "y")
            with self.assertRaises(InvalidWord):
                told(NET, table, "a", "open", "z")
            with self.assertRaises(UnknownNode) as caught:
                told(NET, table, "a", "level", "z")
            self.assertEqual(caught.exception.value, "z")


if __name__ == "__main__":
    unittest.main()
