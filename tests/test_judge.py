"""surepipes/judge.py: claims, which are true, and what is a certificate."""

import itertools
import unittest

from plain import (GREAT, SMALL, STRANGE, Hostile, all_orders, all_rings, all_sets, all_tuples, chance, ends_of,
                   fed_heights, held_order_fault, is_reading_true, places_of, plain_fed, sign, some_amount, some_demands,
                   some_net, some_poles, some_readings)
from surepipes.amounts import Amount
from surepipes.curves import Curve
from surepipes.drains import fed_drains
from surepipes.errors import InvalidClaim
from surepipes.flows import bad_ring, ranks
from surepipes.judge import KINDS, certificate_of, is_certificate, is_claim
from surepipes.nets import Net
from surepipes.orders import Order
from surepipes.ranges import flow_stretch
from surepipes.readings import Readings
from surepipes.scenes import FedScene, HeldScene

RNG = chance(140)
NETS = {**{name: net for name, net in SMALL.items() if len(net.nodes) < 5},
        **{f"chance {at}": some_net(RNG, 4, RNG.randrange(3, 8)) for at in range(3)}}
NET = SMALL["bridged"]
PAIR = Net.of(p=("a", "b"), q=("a", "b"))
DEMANDS = {"a": 2, "b": 0, "c": 0, "d": -2}
POLES = {"a": 9, "d": 0}
FED, HELD = FedScene(NET, DEMANDS), HeldScene(NET, POLES, ("b", ">=", "c"))
BARRED = HeldScene(NET, POLES, ("b", ">", "c"), ("c", ">", "b"))
ORDER = Order.of(["a"], ["b"], ["c"], ["d"])
FLOWS = {"ab": 1, "ac": 1, "bc": 0, "bd": 1, "cd": 1}
RING = {"ab": 1, "ac": -1, "bc": 1, "bd": 0, "cd": 0}
FIRST, SECOND = {"p": 1, "q": 3}, {"p": 2, "q": 3}
EVEN = dict.fromkeys(NET, 1)

# For each first word a true claim with a certificate of it, and one that is not true.
TRUE = {
    "flows": (("flows", NET, FLOWS), {"a": 2, "b": 1, "c": 1, "d": 0}),
    "no flows": (("no flows", NET, RING), [("ab", 1), ("bc", 1), ("ac", -1)]),
    "amount": (("amount", NET, DEMANDS, "ab", 1), EVEN),
    "can": (("can", FED, "b", "=", "c"), EVEN),
    "cannot": (("cannot", HELD, "c", ">", "b"), [(), ("a",), ("a", "d")]),
    "order": (("order", FED, ORDER), {"ab": 1, "ac": 1, "bc": Amount(1, 2), "bd": Amount(1, 2), "cd": Amount(3, 2)}),
    "no order": (("no order", FED, ORDER.turned()), ("d",)),
    "together": (("together", PAIR, [FIRST], None),
                 ({"p": Curve([(1, 6)]), "q": Curve.straight(Amount(1, 2))}, [{"a": 6, "b": 0}])),
    "not together": (("not together", PAIR, [FIRST, SECOND], None), [{"p": -1, "q": 1}, {"p": 1, "q": -1}]),
}
# Other true claims of the same kinds, with certificates.
OTHERS = [
    (("can", HELD, "b", ">", "c"), ORDER), (("can", HELD, "b", "=", "c"), Order.of(["a"], ["b", "c"], ["d"])),
    (("can", HELD, "c", "<", "b"), ORDER), (("can", FED, "b", "=", "b"), EVEN),
    (("cannot", BARRED, "a", "=", "b"), [()]), (("cannot", HELD, "b", "<", "c"), [(), ("a",), ("a", "d")]),
    (("order", HELD, ORDER), {"ab": 2, "ac": 1, "bc": Amount(1, 2), "bd": Amount(3, 2), "cd": Amount(3, 2)}),
    (("no order", FED, Order.of(["a", "b", "c", "d"])), ("a",)),
    (("together", PAIR, [{"p": 1, "q": 1}], {"p": "k", "q": "k"}), ({"k": Curve.straight(3)}, [{"a": Amount(1, 3), "b": 0}])),
    (("not together", PAIR, [FIRST], {"p": "k", "q": "k"}), [{"p": -1, "q": 1}]),
    (("amount", NET, DEMANDS, "bc", 0), EVEN), (("flows", NET, dict.fromkeys(NET, 0)), dict.fromkeys("abcd", 5)),
]

UNTRUE = {
    "flows": ("flows", NET, RING), "no flows": ("no flows", NET, FLOWS), "amount": ("amount", NET, DEMANDS, "ab", 2),
    "can": ("can", FED, "b", ">", "a"), "cannot": ("cannot", HELD, "b", ">", "c"), "order": ("order", FED, ORDER.turned()),
    "no order": ("no order", FED, ORDER), "together": ("together", PAIR, [FIRST, SECOND], None),
    "not together": ("not together", PAIR, [FIRST], {"p": "p", "q": "q"}),
}


class Claims(unittest.TestCase):
    def test_kinds(self):
        self.assertEqual(KINDS, ("flows", "no flows", "amount", "can", "cannot", "order", "no order", "together",
                                 "not together"))
        self.assertEqual((tuple(TRUE), tuple(UNTRUE)), (KINDS, KINDS))

    def test_true_ones(self):
        for claim, right in [*TRUE.values(), *OTHERS]:
            self.assertIs(is_claim(value=claim), True)
            self.assertIs(is_certificate(claim=claim, value=right), True)
            found = certificate_of(claim=claim)
            self.assertIs(is_certificate(claim, found), True, claim)

    def test_untrue_ones(self):
        for word, claim in UNTRUE.items():
            self.assertIs(is_claim(claim), True)
            self.assertIsNone(certificate_of(claim))
            for other, right in TRUE.values():
                self.assertIs(is_certificate(claim, right), False, (word, other))

    def test_certificates_of_other_claims(self):
        for word, (claim, _) in TRUE.items():
            for other, (_, right) in TRUE.items():
                if word != other and {word, other} != {"amount", "can"}:
                    self.assertIs(is_certificate(claim, right), False, (word, other))

    def test_any_value_as_a_certificate(self):
        for claim, right in [*TRUE.values(), *OTHERS]:
            values = [*STRANGE, 0, 1, (), [], {}, [()], (None,), [None], {None: None}, "x", ORDER, NET, FED, (right,), [right]]
            if isinstance(right, dict):
                values += [dict(list(right.items())[1:]), {**right, "zz": 1}, list(right.items()), {**right, list(right)[0]: None},
                           {**right, list(right)[0]: Hostile()}, {**right, list(right)[0]: True}]
            elif isinstance(right, Order):
                values += [right.levels(), str(right), right.turned(), Order.of(["a"], ["b"], ["c"]), Order([["a", "b", "c", "d"]])]
            else:
                values += [right[:-1], [*right, None], list(right)[1:]]
            for value in [value for value in values if type(value) is not type(right) or value != right]:
                self.assertIs(is_certificate(claim, value), False, (claim, type(value)))

    def test_no_claims(self):
        wrong = [*STRANGE, (), ("flows",), ("flows", NET), ("flows", NET, FLOWS, None), ["flows", NET, FLOWS], "flows", 1,
                 ("Flows", NET, FLOWS), (None, NET, FLOWS), (Hostile(), NET, FLOWS), (b"flows", NET, FLOWS),
                 ("flows", None, FLOWS), ("flows", FED, FLOWS), ("flows", ends_of(NET), FLOWS), ("flows", NET, None),
                 ("flows", NET, {**FLOWS, "ab": None}), ("flows", NET, {"ab": 1}), ("flows", Hostile(), FLOWS),
                 ("no flows", NET, list(FLOWS)), ("no flows", NET, {**FLOWS, "ab": True}), ("no flows", NET),
                 ("amount", NET, DEMANDS, "ab"), ("amount", NET, DEMANDS, "ab", None), ("amount", NET, DEMANDS, "zz", 1),
                 ("amount", NET, {**DEMANDS, "a": 1}, "ab", 1), ("amount", NET, POLES, "ab", 1), ("amount", NET, DEMANDS, None, 1),
                 ("amount", FED, "ab", 1), ("amount", NET, DEMANDS, "ab", True), ("amount", NET, DEMANDS, "ab", "1"),
                 ("can", NET, "b", "=", "c"), ("can", FED, "b", ">=", "c"), ("can", FED, "b", "above", "c"),
                 ("can", FED, "z", "=", "c"), ("can", FED, "b", "=", "z"), ("can", FED, "b", None, "c"),
                 ("can", FED, "b", "=", "c", "d"), ("can", FED, "b", Hostile(), "c"), ("can", FED, Hostile(), "=", "c"),
                 ("can", None, "b", "=", "c"), ("can", HELD, "b", ">=", "c"), ("can", HELD, ["b"], ">", "c"), ("can", HELD, "b", "="),
                 ("cannot", FED, "b", "=", "c"), ("cannot", HELD, "b", ">=", "c"), ("cannot", HELD, "z", ">", "c"),
                 ("cannot", HELD, "b", ">", None), ("cannot", NET, "b", ">", "c"), ("cannot", Readings(NET, POLES), "b", ">", "c"),
                 ("order", NET, ORDER), ("order", FED, None), ("order", FED, ORDER.levels()), ("order", FED, Order.of(["a"], ["b"])),
                 ("order", HELD, "a > b > c > d"), ("order", HELD, Order.of(["a"], ["b", "c", "d", "e"])), ("order", FED, Hostile()),
                 ("no order", HELD, ORDER), ("no order", FED, str(ORDER)), ("no order", FED), ("no order", None, ORDER),
                 ("together", PAIR, [FIRST]), ("together", PAIR, [], None), ("together", PAIR, [FIRST] * 5, None),
                 ("together", PAIR, FIRST, None), ("together", PAIR, [FIRST], {"p": "k"}), ("together", PAIR, [FIRST], {"p": "k", "q": 1}),
                 ("together", FED, [FIRST], None), ("together", PAIR, [{"p": 1}], None), ("together", PAIR, [FIRST], False),
                 ("not together", PAIR, None, None), ("not together", PAIR, [FIRST, None], None),
                 ("not together", PAIR, [FIRST], {}), ("not together", PAIR, [FIRST], None, None)]
        for value in wrong:
            self.assertIs(is_claim(value), False)
            for call in (lambda: certificate_of(value), lambda: is_certificate(value, None)):
                with self.assertRaises(InvalidClaim) as caught:
                    call()
                self.assertIs(caught.exception.value, value)

    def test_kinds_can_be_None(self):
        for kinds in (None, {"p": "k", "q": "l"}):
            self.assertIs(is_claim(("together", PAIR, (FIRST,), kinds)), True)
            self.assertIs(is_claim(("not together", PAIR, [FIRST], kinds)), True)

    def test_what_is_claimed_stays_as_it_is(self):
        flows = {"cd": 1, "ab": 1, "ac": 1, "bc": 0, "bd": 1}
        claim = ("flows", NET, flows)
        certificate_of(claim).clear()
        self.assertEqual(list(flows), ["cd", "ab", "ac", "bc", "bd"])
        self.assertEqual(certificate_of(claim), ranks(NET, flows))


class Opposites(unittest.TestCase):
    """Of two claims that contradict one another exactly one has a certificate; and the right one, by a plain search."""

    def check(self, yes, no, right):
        found, other = certificate_of(yes), certificate_of(no)
        self.assertEqual((found is not None, other is not None), (right, not right), (yes, no))
        if right:
            self.assertIs(is_certificate(yes, found), True, yes)
        else:
            self.assertIs(is_certificate(no, other), True, no)
        return right

    def test_flows(self):
        rng = chance(141)
        for net in NETS.values():
            for _ in range(6):
                flows = {pipe: rng.choice([-1, 0, 1, Amount(1, 2)]) for pipe in net}
                right = not any(all(way * sign_of(flows[pipe]) >= 0 for pipe, way in ring)
                                and any(sign_of(flows[pipe]) for pipe, _ in ring) for ring in all_rings(net))
                self.check(("flows", net, flows), ("no flows", net, flows), right)
                self.assertIs(right, bad_ring(net, flows) is None)

    def test_orders_of_fed_scenes(self):
        rng = chance(142)
        for net in NETS.values():
            scene = FedScene(net, some_demands(rng, net))
            for levels in all_orders(net.nodes):
                order = Order(levels)
                right = fed_drains(net, scene.demands, order) is not None
                self.check(("order", scene, order), ("no order", scene, order), right)
                for nodes in all_sets(net.nodes):
                    self.assertFalse(right and is_certificate(("no order", scene, order), nodes))

    def test_orders_of_held_scenes(self):
        rng = chance(143)
        for net in NETS.values():
            for many in (0, 2):
                scene = HeldScene(net, some_poles(rng, net), *some_readings(rng, net, many))
                plain = HeldScene(net, scene.poles)
                for levels in all_orders(net.nodes):
                    order = Order(levels)
                    possible = held_order_fault(net, scene.poles, levels) is None
                    right = possible and all(is_reading_true(levels, row) for row in scene.readings)
                    found = certificate_of(("order", scene, order))
                    self.assertEqual(found is not None, right)
                    if possible:
                        drains = certificate_of(("order", plain, order))
                        self.assertIs(is_certificate(("order", plain, order), drains), True)
                        # Drains alone do not tell that the readings are kept.
                        self.assertIs(is_certificate(("order", scene, order), drains), right)

    def test_comparisons_in_held_scenes(self):
        rng = chance(144)
        words = {">": 1, "=": 0, "<": -1}
        seen = set()
        for net in NETS.values():
            for many in (0, 1, 2, 4):
                scene = HeldScene(net, some_poles(rng, net), *some_readings(rng, net, many))
                orders = [levels for levels in all_orders(net.nodes) if held_order_fault(net, scene.poles, levels) is None
                          and all(is_reading_true(levels, row) for row in scene.readings)]
                for u, v in itertools.product(net.nodes, repeat=2):
                    for word, wanted in words.items():
                        right = any(sign(places_of(levels)[v] - places_of(levels)[u]) == wanted for levels in orders)
                        seen.add(self.check(("can", scene, u, word, v), ("cannot", scene, u, word, v), right))
                        for levels in list(all_orders(net.nodes))[::5]:
                            kept = levels in orders and sign(places_of(levels)[v] - places_of(levels)[u]) == wanted
                            self.assertIs(is_certificate(("can", scene, u, word, v), Order(levels)), kept)
        self.assertEqual(seen, {True, False})

    def test_barred_readings(self):
        for u, v in itertools.product("abcd", repeat=2):
            for word in "<=>":
                self.check(("can", BARRED, u, word, v), ("cannot", BARRED, u, word, v), False)

    def test_one_reading_more_than_sixteen(self):
        pairs = list(itertools.product("abcd", repeat=2))
        scene = HeldScene(NET, {"a": 1}, *[(u, ">=", v) for u, v in pairs])
        self.assertEqual(len(scene.readings), 16)
        self.check(("can", scene, "b", "=", "c"), ("cannot", scene, "b", "=", "c"), True)
        self.check(("can", scene, "b", "<", "c"), ("cannot", scene, "b", "<", "c"), False)

    def test_states(self):
        rng = chance(145)
        seen = set()
        for net in NETS.values():
            for _ in range(8):
                states = [{pipe: rng.randrange(-1, 3) for pipe in net} for _ in range(rng.randrange(1, 4))]
                kinds = rng.choice([None, {pipe: rng.choice("kl") for pipe in net}])
                yes, no = ("together", net, states, kinds), ("not together", net, states, kinds)
                seen.add(self.check(yes, no, certificate_of(no) is None))
        self.assertEqual(seen, {True, False})

    def test_eight_nodes_sixteen_pipes(self):
        rng = chance(146)
        states = [{pipe: rng.randrange(-1, 3) for pipe in GREAT} for _ in range(4)]
        self.check(("together", GREAT, states, None), ("not together", GREAT, states, None), False)
        scene = HeldScene(GREAT, {"a": 1, "g": 0}, ("b", ">", "h"), ("f", ">=", "b"))
        self.check(("can", scene, "h", "<", "f"), ("cannot", scene, "h", "<", "f"), True)
        self.check(("can", scene, "h", ">", "f"), ("cannot", scene, "h", ">", "f"), False)
        demands = {**dict.fromkeys(GREAT.nodes, 0), "a": 1, "g": -1}
        claim = ("amount", GREAT, demands, "bh", Amount(-1, 3))
        self.assertIs(is_certificate(claim, certificate_of(claim)), True)


def sign_of(value):
    return value.sign if isinstance(value, Amount) else sign(value)


class Conductances(unittest.TestCase):
    def test_comparisons_in_fed_scenes(self):
        rng = chance(147)
        words = {">": "above", "=": "level", "<": "below"}
        for net in NETS.values():
            for _ in range(2):
                scene = FedScene(net, some_demands(rng, net))
                for u, v in itertools.product(net.nodes, repeat=2):
                    answer = plain_fed(net, scene.demands, u, v)
                    for word in words:
                        claim = ("can", scene, u, word, v)
                        found = certificate_of(claim)
                        self.assertEqual(found is not None, answer in ("open", words[word]), claim)
                        if found is None:
                            self.assertIs(is_certificate(claim, dict.fromkeys(net, 1)), False)
                            continue
                        heights = fed_heights(net, scene.demands, found)
                        told = {1: ">", 0: "=", -1: "<"}[sign(heights[u] - heights[v])]
                        self.assertEqual(told, word)
                        for other in words:
                            self.assertIs(is_certificate(("can", scene, u, other, v), found), other == word)

    def test_amounts(self):
        rng = chance(148)
        for net in NETS.values():
            demands = some_demands(rng, net)
            for pipe in net:
                stretch = flow_stretch(net, demands, pipe)
                for amount in (stretch.low, stretch.high, (stretch.low + stretch.high) * Amount(1, 2), 0, some_amount(rng)):
                    claim = ("amount", net, demands, pipe, amount)
                    found = certificate_of(claim)
                    self.assertEqual(found is not None, amount in stretch, claim)
                    if found is not None:
                        self.assertIs(is_certificate(claim, found), True)
                        self.assertIs(is_certificate(("amount", net, demands, pipe, amount + Amount(1, 7)), found), False)

    def test_no_conductances(self):
        for claim in (("can", FED, "b", "=", "c"), ("amount", NET, DEMANDS, "ab", 1)):
            for value in ({**EVEN, "ab": 0}, {**EVEN, "ab": -1}, {**EVEN, "ab": "1"}, {**EVEN, "bd": 2}):
                self.assertIs(is_certificate(claim, value), False)
            self.assertIs(is_certificate(claim, {**EVEN, "bc": Amount(3, 7)}), True)

    def test_rings_of_all_small_tuples(self):
        claim = ("no flows", NET, RING)
        rings = [ring for ring in all_rings(NET) if all(way * RING[pipe] >= 0 for pipe, way in ring)
                 and any(RING[pipe] for pipe, _ in ring)]
        self.assertEqual(len(rings), 10)
        for nodes in all_tuples(NET):
            self.assertIs(is_certificate(claim, nodes), False)
        for ring in all_rings(NET):
            self.assertIs(is_certificate(claim, ring), ring in rings)


if __name__ == "__main__":
    unittest.main()
