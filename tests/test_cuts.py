"""surepipes/cuts.py: cuts, ways, and what a node sees."""

import itertools
import unittest

from plain import GREAT, SMALL, STRANGE, all_cuts, all_tuples, all_ways, chance, some_net
from surepipes.amounts import Amount
from surepipes.cuts import cuts, is_cut, seen, ways
from surepipes.errors import InvalidPoles, UnknownNode

RNG = chance(2)
NETS = {**SMALL, **{f"chance {at}": some_net(RNG, 5, RNG.randrange(5, 9)) for at in range(6)}}


class Cuts(unittest.TestCase):
    def test_against_all_sets_of_nodes(self):
        for name, net in NETS.items():
            for u in net.nodes:
                for v in net.nodes:
                    found = list(cuts(net, u, v))
                    self.assertEqual(found, all_cuts(net, u, v), (name, u, v))
                    self.assertTrue(all(type(cut) is tuple for cut in found))
                    self.assertEqual(list(cuts(v=v, u=u, net=net)), found)

    def test_eight_nodes_and_sixteen_pipes(self):
        for u, v in (("a", "b"), ("h", "c"), ("e", "g")):
            self.assertEqual(list(cuts(GREAT, u, v)), all_cuts(GREAT, u, v))

    def test_none_of_a_node_and_itself(self):
        self.assertEqual(list(cuts(GREAT, "a", "a")), [])

    def test_a_bridge(self):
        net = SMALL["triangle with a tail"]
        self.assertEqual(list(cuts(net, "c", "d")), [("a", "b", "c")])
        self.assertEqual(list(cuts(net, "d", "c")), [("d", "e")])

    def test_is_cut(self):
        for name, net in NETS.items():
            sets = [value for many in range(len(net.nodes) + 1) for value in itertools.combinations(net.nodes, many)]
            for u in net.nodes:
                for v in net.nodes:
                    right = all_cuts(net, u, v)
                    for value in sets:
                        self.assertIs(is_cut(net, u, v, value), value in right, (name, u, v, value))

    def test_is_cut_of_what_is_no_set_of_nodes(self):
        net = SMALL["bridged"]
        self.assertIs(is_cut(net, "b", "c", ("a", "b")), True)
        for value in [*STRANGE, (), ["a", "b"], ("b", "a"), ("a", "a", "b"), ("a", "b", "b"), ("a", "b", "z"),
                      ("a", "b", 1), ("a", "b", None), ("a", ["b"]), (("a", "b"),), "ab", {"a": 1, "b": 1}, 3,
                      [("a", "b")], (True,), ("a", "b", "c"), ("a", "b", "c", "d"), ("a",), ("c",), STRANGE[-2:]]:
            self.assertIs(is_cut(net, "b", "c", value), False)
        self.assertIs(is_cut(value=("b",), v="c", u="b", net=net), True)
        self.assertIs(is_cut(net, "b", "b", ("b",)), False)


class Ways(unittest.TestCase):
    def test_against_all_tuples_of_nodes(self):
        for name, net in NETS.items():
            for u in net.nodes:
                for v in net.nodes:
                    found = list(ways(net, u, v))
                    self.assertEqual(found, all_ways(net, u, v), (name, u, v))
                    self.assertTrue(all(type(way) is tuple for way in found))

    def test_with_nodes_to_avoid(self):
        for name, net in NETS.items():
            for many in range(len(net.nodes) + 1):
                for avoid in itertools.combinations(net.nodes, many):
                    for u, v in itertools.islice(itertools.product(net.nodes, repeat=2), many % 3, None, 3):
                        wanted = all_ways(net, u, v, avoid)
                        self.assertEqual(list(ways(net, u, v, avoid=avoid)), wanted, (name, u, v, avoid))
                        self.assertEqual(list(ways(v=v, u=u, avoid=list(avoid) * 2, net=net)), wanted)

    def test_eight_nodes_and_sixteen_pipes(self):
        found = list(ways(GREAT, "a", "g"))
        self.assertEqual(found, all_ways(GREAT, "a", "g"))
        self.assertEqual(list(ways(GREAT, "a", "g", avoid=["b", "a", "g"])), all_ways(GREAT, "a", "g", "bag"))

    def test_a_node_and_itself(self):
        for node in GREAT.nodes:
            self.assertEqual(list(ways(GREAT, node, node)), [(node,)])
            self.assertEqual(list(ways(GREAT, node, node, avoid=GREAT.nodes)), [(node,)])

    def test_what_to_avoid_is_passed_by_its_name_and_stays_as_it_is(self):
        with self.assertRaises(TypeError):
            ways(GREAT, "a", "b", ["c"])
        avoid = ["d", "c"]
        list(ways(GREAT, "a", "b", avoid=avoid))
        self.assertEqual(avoid, ["d", "c"])

    def test_what_to_avoid_is_wrong(self):
        for value in [*STRANGE, "a", {"a": 1}, iter(["a"]), 1, Amount(1), range(2)]:
            with self.assertRaises(UnknownNode) as caught:
                list(ways(GREAT, "a", "b", avoid=value))
            self.assertIs(caught.exception.value, value)
            for avoid in ([value], (value,), ["a", "c", value, "zz"], [value, "zz"], ["c", value]):
                if value == "a" and isinstance(value, str):
                    continue
                with self.assertRaises(UnknownNode) as caught:
                    list(ways(GREAT, "a", "b", avoid=avoid))
                self.assertIs(caught.exception.value, value)


class Errors(unittest.TestCase):
    def test_they_are_raised_when_the_iteration_begins(self):
        for value in [*STRANGE, "z", 1, ["a"], ("a",)]:
            for told in (cuts, ways):
                for u, v in ((value, "a"), ("a", value), (value, "zz")):
                    made = told(GREAT, u, v)
                    with self.assertRaises(UnknownNode) as caught:
                        next(made)
                    self.assertIs(caught.exception.value, value)
            made = ways(GREAT, "a", value, avoid=None)
            with self.assertRaises(UnknownNode) as caught:
                next(made)
            self.assertIs(caught.exception.value, value)
        made = ways(GREAT, "a", "b", avoid=["z"])
        with self.assertRaises(UnknownNode):
            next(made)

    def test_of_is_cut(self):
        for value in [*STRANGE, "z", 1, ["a"], ("a",)]:
            for u, v in ((value, "a"), ("a", value), (value, "zz")):
                with self.assertRaises(UnknownNode) as caught:
                    is_cut(GREAT, u, v, None)
                self.assertIs(caught.exception.value, value)


class Seeing(unittest.TestCase):
    def test_against_all_ways(self):
        for name, net in NETS.items():
            for many in range(1, len(net.nodes) + 1):
                for poles in itertools.combinations(net.nodes, many):
                    told = {pole: 0 for pole in poles[::-1]}
                    for node in net.nodes:
                        wanted = [pole for pole in poles if all_ways(net, node, pole, poles)]
                        self.assertEqual(seen(net, told, node), wanted, (name, poles, node))

    def test_itself_and_other_poles(self):
        net = SMALL["path"]
        poles = {"c": 1, "a": Amount(1, 2)}
        self.assertEqual([seen(net, poles, node) for node in "abcd"], [["a", "c"], ["a", "c"], ["a", "c"], ["c"]])
        self.assertEqual(seen(node="d", poles=poles, net=net), ["c"])
        self.assertEqual(poles, {"c": 1, "a": Amount(1, 2)})
        self.assertEqual([seen(net, {"b": 1, "a": 1, "c": 1}, node) for node in "ad"], [["a", "b"], ["c"]])

    def test_errors_in_their_sequence(self):
        with self.assertRaises(InvalidPoles):
            seen(GREAT, {}, "z")
        with self.assertRaises(UnknownNode):
            seen(GREAT, {"a": 1}, "z")

    def test_all_tuples_are_all(self):
        self.assertEqual(len(list(all_tuples(SMALL["bridged"]))), 4 + 12 + 24 + 24)


if __name__ == "__main__":
    unittest.main()
