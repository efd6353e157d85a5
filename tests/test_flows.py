"""surepipes/flows.py: ranks, bad rings, and heights that fit flows."""

import itertools
import unittest

from plain import (GREAT, SMALL, STRANGE, all_rings, chance, ends_of, fed_heights, flow_of, sign, some_conductances,
                   some_demands, some_net)
from surepipes.amounts import Amount, is_integer
from surepipes.flows import bad_ring, fit_flows, is_bad_ring, ranks
from surepipes.nets import Net
from surepipes.states import State, curves_of

RNG = chance(10)
NETS = {**SMALL, **{f"chance {at}": some_net(RNG, 4, RNG.randrange(4, 7)) for at in range(4)}}
PAIR = Net.of(p=("a", "b"), q=("b", "a"))


def all_signs(net):
    """Flows -1, 0 and 1 in all ways, or, if there are too many, some of them."""
    rows = list(itertools.product((-1, 0, 1), repeat=len(net)))
    if len(rows) > 300:
        rows = RNG.sample(rows, 300)
    for row in rows:
        yield dict(zip(net, row))


def is_bad(flows, ring):
    signs = [flows[name] * way for name, way in ring]
    return min(signs) >= 0 and max(signs) > 0


def fit(net, flows, heights):
    return all(sign(heights[tail] - heights[head]) == sign(flows[name]) for name, (tail, head) in ends_of(net).items())


def plain_ranks(net, flows):
    """The least counts that fit, out of all counts less than the number of nodes."""
    rows = [dict(zip(net.nodes, row)) for row in itertools.product(range(len(net.nodes)), repeat=len(net.nodes))]
    rows = [row for row in rows if fit(net, flows, row)]
    if not rows:
        return None
    least = {node: min(row[node] for row in rows) for node in net.nodes}
    assert least in rows
    return least


class Rings(unittest.TestCase):
    def test_a_bad_ring_or_ranks(self):
        for name, net in NETS.items():
            rings = list(all_rings(net))
            for flows in all_signs(net):
                bad = [ring for ring in rings if is_bad(flows, ring)]
                found, counts = bad_ring(net, flows), ranks(net, flows)
                self.assertEqual(found is None, not bad, (name, flows))
                self.assertEqual(counts is None, bool(bad), (name, flows))
                if bad:
                    self.assertIn(found, bad)
                    self.assertIs(type(found), list)
                    self.assertIs(is_bad_ring(net, flows, found), True)
                else:
                    self.assertTrue(fit(net, flows, counts))
                    self.assertIs(fit_flows(net, flows, counts), True)
                    self.assertEqual(list(counts), list(net.nodes))
                    self.assertTrue(all(is_integer(count) and count >= 0 for count in counts.values()))

    def test_ranks_are_the_least_counts(self):
        for name in ("one pipe", "two pipes", "path", "star", "triangle", "bridged", "square", "all of four"):
            net = NETS[name]
            for flows in itertools.islice(all_signs(net), 0, None, 3):
                self.assertEqual(ranks(net, flows), plain_ranks(net, flows), (name, flows))

    def test_is_bad_ring_against_all_rings(self):
        for name in ("two pipes", "three pipes", "triangle", "bridged", "square"):
            net = NETS[name]
            rings = list(all_rings(net))
            parts = [(pipe, way) for pipe in net for way in (1, -1)]
            for flows in itertools.islice(all_signs(net), 0, None, 7):
                for many in range(0, 4):
                    for value in itertools.product(parts, repeat=many):
                        wanted = list(value) in rings and is_bad(flows, value)
                        self.assertIs(is_bad_ring(net, flows, list(value)), wanted, (name, flows, value))
                        self.assertIs(is_bad_ring(net, flows, value), wanted)

    def test_flows_of_states_have_no_bad_ring(self):
        rng = chance(11)
        for net in [*NETS.values(), GREAT]:
            for _ in range(10):
                demands, conductances = some_demands(rng, net), some_conductances(rng, net)
                heights = fed_heights(net, demands, conductances)
                flows = {name: flow_of(net, heights, conductances, name) for name in net}
                flows = {name: Amount(flow.numerator, flow.denominator) for name, flow in flows.items()}
                self.assertIsNone(bad_ring(net, flows))
                counts = ranks(net, flows)
                self.assertIs(fit_flows(net, flows, counts), True)
                self.assertIsNotNone(curves_of(net, State(flows, counts)))

    def test_eight_nodes_and_sixteen_pipes(self):
        flows = dict.fromkeys(GREAT, 0)
        self.assertEqual(ranks(GREAT, flows), dict.fromkeys(GREAT.nodes, 0))
        self.assertIsNone(bad_ring(GREAT, flows))
        down = {name: 1 if ends < ends[::-1] else -1 for name, ends in ends_of(GREAT).items()}
        self.assertEqual(ranks(GREAT, down), dict(zip("abcdefgh", (4, 3, 2, 1, 3, 2, 1, 0))))
        long = Net({**ends_of(GREAT.without("he").without("ae")), "xde": ("d", "e"), "xhe": ("h", "e")})
        down = {name: 1 if ends < ends[::-1] else -1 for name, ends in ends_of(long).items()}
        self.assertEqual(ranks(long, down), dict(zip("abcdefgh", range(7, -1, -1))))
        found = bad_ring(long, {**down, "ab": -1})
        self.assertIs(is_bad_ring(long, {**down, "ab": -1}, found), True)
        self.assertIsNone(ranks(long, {**down, "ab": -1}))

    def test_pipes_that_share_both_ends(self):
        self.assertIsNone(bad_ring(PAIR, {"p": 1, "q": -5}))
        self.assertIsNone(bad_ring(PAIR, {"p": 0, "q": 0}))
        for p, q in ((1, 1), (-1, -1), (1, 0), (0, 1), (-1, 0), (Amount(1, 2), 9)):
            self.assertIsNone(ranks(PAIR, {"p": p, "q": q}))
            self.assertIs(is_bad_ring(PAIR, {"p": p, "q": q}, bad_ring(PAIR, {"p": p, "q": q})), True)

    def test_a_returned_ring_can_be_changed(self):
        first = bad_ring(PAIR, {"p": 1, "q": 0})
        first.clear()
        ranks(PAIR, {"p": 1, "q": -1}).clear()
        self.assertEqual(len(bad_ring(PAIR, {"p": 1, "q": 0})), 2)
        self.assertEqual(ranks(PAIR, {"p": 1, "q": -1}), {"a": 1, "b": 0})


class AnyValues(unittest.TestCase):
    def test_bad_rings(self):
        flows = {"p": 1, "q": 0}
        for value in ([("p", 1), ("q", 1)], [("q", 1), ("p", 1)], (("p", 1), ("q", 1))):
            self.assertIs(is_bad_ring(PAIR, flows, value), True)
        for value in [*STRANGE, [], (), [("p", 1)], [("p", 1), ("p", -1)], [("p", 1), ("q", -1)], [("p", -1), ("q", -1)],
                      [("p", 1), ("q", True)], [("p", True), ("q", 1)], [["p", 1], ["q", 1]], [("p", 1), ["q", 1]],
                      [("p", 1, 1), ("q", 1)], [("p",), ("q", 1)], [("p", 1), ("z", 1)], [("p", 1), (None, 1)],
                      [("p", 1), (["q"], 1)], [("p", 1), ("q", None)], [("p", 1), ("q", 2)], [("p", 1), ("q", 0)],
                      [("p", Amount(1)), ("q", 1)], [("p", 1), ("q", 1), ("p", 1), ("q", 1)], {"p": 1, "q": 1},
                      {("p", 1): ("q", 1)}, "pq", [("p", 1), ("q", "1")], [("p", 1), None], [("p", 1), "q1"],
                      [(STRANGE[-2], 1), ("q", 1)], [("p", STRANGE[-2]), ("q", 1)], [STRANGE[-2]] * 2, 1]:
            self.assertIs(is_bad_ring(PAIR, flows, value), False)

    def test_a_way_is_1_or_minus_1(self):
        same = Net.of(p=("a", "b"), q=("a", "b"))
        self.assertIs(is_bad_ring(same, {"p": 1, "q": -1}, [("p", 1), ("q", -1)]), True)
        for way in (-2, -7, 0, 2, 1, True, False, Amount(-1), None):
            self.assertIs(is_bad_ring(same, {"p": 1, "q": -1}, [("p", 1), ("q", way)]), False)
            self.assertIs(is_bad_ring(same, {"p": 1, "q": 0}, [("p", 1), ("q", way)]), False)

    def test_a_ring_that_meets_a_node_twice(self):
        net = SMALL["two triangles"]
        flows = dict.fromkeys(net, 0)
        flows = {**flows, "ab": 1, "bm": 1, "am": -1, "cm": -1, "dm": 1, "cd": 1}
        twice = [("ab", 1), ("bm", 1), ("cm", -1), ("cd", 1), ("dm", 1), ("am", -1)]
        self.assertIs(is_bad_ring(net, flows, twice), False)
        self.assertIs(is_bad_ring(net, flows, [("ab", 1), ("bm", 1), ("am", -1)]), True)
        self.assertIs(is_bad_ring(net, flows, [("cd", 1), ("dm", 1), ("cm", -1)]), True)

    def test_heights(self):
        flows = {"p": 1, "q": Amount(-1, 2)}
        for value in ({"a": 1, "b": 0}, {"b": Amount(-1, 3), "a": 0}, {"a": Amount(1), "b": -5}):
            self.assertIs(fit_flows(PAIR, flows, value), True)
        for value in [*STRANGE, {}, {"a": 1}, {"a": 0, "b": 0}, {"a": 0, "b": 1}, {"a": 1, "b": 0, "c": 0},
                      {"a": 1, "c": 0}, {"a": True, "b": 0}, {"a": 1, "b": False}, {"a": 1, "b": None},
                      {"a": "1", "b": "0"}, {"a": STRANGE[-2], "b": 0}, [("a", 1), ("b", 0)], {1: 1, "b": 0}, 1]:
            self.assertIs(fit_flows(PAIR, flows, value), False)

    def test_against_plain_heights(self):
        rng = chance(12)
        for name, net in NETS.items():
            for flows in itertools.islice(all_signs(net), 0, None, 5):
                heights = {node: rng.randrange(3) for node in net.nodes}
                self.assertIs(fit_flows(net, flows, heights), fit(net, flows, heights), (name, flows, heights))
            heights = {node: rng.randrange(3) for node in net.nodes}
            flows = {pipe: sign(heights[tail] - heights[head]) for pipe, (tail, head) in ends_of(net).items()}
            self.assertIs(fit_flows(net, flows, heights), True)


if __name__ == "__main__":
    unittest.main()
