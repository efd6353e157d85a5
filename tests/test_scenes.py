"""surepipes/scenes.py: fed and held scenes, their texts, and what they answer."""

import itertools
import unittest

from plain import (GREAT, SMALL, STRANGE, Hostile, all_orders, chance, ends_of, fraction, held_order_fault, is_reading_true,
                   some_demands, some_net, some_poles, some_readings)
from surepipes.amounts import Amount
from surepipes.drains import fed_drains
from surepipes.errors import (Barred, InvalidDemands, InvalidOrder, InvalidPoles, InvalidReading, TooMany, Unbalanced,
                              UnknownNode, UnknownPipe)
from surepipes.nets import Net
from surepipes.orders import Order
from surepipes.readings import Readings
from surepipes.scenes import Fed, FedScene, Held, HeldScene, Scene
from surepipes.signs import fed_compare, fed_direction, held_compare, held_direction

RNG = chance(120)
NETS = {**{name: net for name, net in SMALL.items() if len(net.nodes) < 5},
        **{f"chance {at}": some_net(RNG, 4, RNG.randrange(3, 8)) for at in range(4)}}
NET = SMALL["bridged"]
DEMANDS = {"d": -2, "b": 0, "c": 0, "a": 2}
POLES = {"d": 0, "a": Amount(9, 2)}
ROWS = [("b", ">=", "c"), ("a", ">", "d")]
PIPES = "pipe ab a b\npipe ac a c\npipe bc b c\npipe bd b d\npipe cd c d\n"


def plain_text(net, demands=None, poles=None, rows=()):
    """Point 92, word for word."""
    lines = [f"pipe {pipe} {tail} {head}" for pipe, (tail, head) in sorted(ends_of(net).items())]
    table = poles if demands is None else demands
    for node in sorted(table):
        value = fraction(table[node])
        if value or demands is None:
            lines.append(f"{'demand' if demands is not None else 'pole'} {node} {value}")
    lines.insert(len(net), "held" if demands is None else "fed")
    return "".join(line + "\n" for line in [*lines, *[" ".join(["reading", *row]) for row in rows]])


class Made(unittest.TestCase):
    def test_fed(self):
        scene = FedScene(NET, DEMANDS)
        self.assertIs(type(scene), FedScene)
        self.assertTrue(isinstance(scene, Scene) and isinstance(scene, Fed) and not isinstance(scene, Held))
        self.assertEqual(scene.net, NET)
        self.assertEqual(list(scene.demands.items()), [("a", Amount(2)), ("b", Amount(0)), ("c", Amount(0)), ("d", Amount(-2))])
        self.assertEqual(scene, FedScene(demands=DEMANDS, net=NET))

    def test_held(self):
        scene = HeldScene(NET, POLES, *ROWS)
        self.assertIs(type(scene), HeldScene)
        self.assertTrue(isinstance(scene, Scene) and isinstance(scene, Held) and not isinstance(scene, Fed))
        self.assertEqual(scene.net, NET)
        self.assertEqual(list(scene.poles.items()), [("a", Amount(9, 2)), ("d", Amount(0))])
        self.assertEqual(scene.readings, ROWS)
        self.assertEqual(HeldScene(poles=POLES, net=NET), HeldScene(NET, POLES))
        self.assertEqual(HeldScene(NET, POLES).readings, [])

    def test_a_reading_takes_the_place_of_an_earlier_one(self):
        scene = HeldScene(NET, POLES, ("b", ">", "c"), ("c", ">", "b"), ("b", "=", "c"))
        self.assertEqual(scene.readings, [("b", "=", "c"), ("c", ">", "b")])
        pairs = list(itertools.product("abcd", repeat=2))
        rows = [(u, ">=", v) for u, v in pairs] + [("a", ">", "d")]
        self.assertEqual(len(HeldScene(NET, POLES, *rows).readings), 16)

    def test_copies(self):
        demands, poles = dict(DEMANDS), dict(POLES)
        fed, held = FedScene(NET, demands), HeldScene(NET, poles, *ROWS)
        demands["a"] = poles["b"] = 7
        fed.demands.clear()
        held.poles.clear()
        held.readings.clear()
        self.assertEqual((fed, held), (FedScene(NET, DEMANDS), HeldScene(NET, POLES, *ROWS)))
        for scene, names in ((fed, ("net", "demands")), (held, ("net", "poles", "readings"))):
            for name in names:
                with self.assertRaises(AttributeError):
                    setattr(scene, name, None)

    def test_equal(self):
        scenes = [FedScene(NET, DEMANDS), FedScene(NET, {**DEMANDS, "a": 3, "d": -3}), FedScene(NET.turned("ab"), DEMANDS),
                  FedScene(NET.without("bc"), DEMANDS), HeldScene(NET, POLES), HeldScene(NET, {**POLES, "a": 1}),
                  HeldScene(NET, {**POLES, "b": 1}), HeldScene(NET, POLES, *ROWS), HeldScene(NET, POLES, *ROWS[::-1]),
                  HeldScene(NET, POLES, ROWS[0]), HeldScene(NET, POLES, ("b", ">", "c"), ROWS[1])]
        for one, other in itertools.product(range(len(scenes)), repeat=2):
            self.assertIs(scenes[one] == scenes[other], one == other)
            self.assertIs(scenes[one] != scenes[other], one != other)
        for value in [*STRANGE[:-2], NET, str(scenes[0]), DEMANDS]:
            self.assertIs(scenes[0] == value, False)
        self.assertEqual(FedScene(NET, {**DEMANDS, "a": Amount(4, 2)}), FedScene(NET, DEMANDS))

    def test_errors_of_fed_scenes(self):
        for value in [*STRANGE, {}, {"a": 1}, {**DEMANDS, "z": 0}]:
            with self.assertRaises(InvalidDemands) as caught:
                FedScene(NET, value)
            self.assertIsNone(caught.exception.node)
        with self.assertRaises(InvalidDemands) as caught:
            FedScene(NET, {**DEMANDS, "b": None, "d": "1"})
        self.assertEqual(caught.exception.node, "d")
        with self.assertRaises(Unbalanced) as caught:
            FedScene(NET, {**DEMANDS, "b": Amount(1, 2)})
        self.assertEqual(caught.exception.total, Amount(1, 2))

    def test_errors_of_held_scenes(self):
        for value, node in ((None, None), ({}, None), ({"z": 1}, "z"), ({"a": None}, "a")):
            with self.assertRaises(InvalidPoles) as caught:
                HeldScene(NET, value, None)
            self.assertEqual(caught.exception.node, node)
        for wrong in [*STRANGE, ("a", ">"), ["a", ">", "b"], ("z", ">", "a"), ("a", "<", "b"), (Hostile(), ">", "a"), ROWS]:
            for at, rows in enumerate(([wrong], [ROWS[0], wrong], [*ROWS, wrong, None])):
                with self.assertRaises(InvalidReading) as caught:
                    HeldScene(NET, POLES, *rows)
                self.assertEqual(caught.exception.position, at)
        five = SMALL["five"]
        rows = [(u, ">=", v) for u, v in itertools.product(five.nodes, repeat=2)]
        self.assertEqual(len(HeldScene(five, {"a": 1}, *rows[:16]).readings), 16)
        with self.assertRaises(TooMany) as caught:
            HeldScene(five, {"a": 1}, *rows[:17])
        self.assertEqual((caught.exception.what, caught.exception.limit), ("readings", 16))
        with self.assertRaises(InvalidReading):
            HeldScene(five, {"a": 1}, *rows[:17], None)


class Texts(unittest.TestCase):
    def test_against_the_definition(self):
        rng = chance(121)
        for net in [*SMALL.values(), GREAT]:
            for _ in range(3):
                demands, poles = some_demands(rng, net), some_poles(rng, net)
                rows = some_readings(rng, net, rng.randrange(4))
                self.assertEqual(str(FedScene(net, demands)), plain_text(net, demands=demands))
                self.assertEqual(str(HeldScene(net, poles, *rows)), plain_text(net, poles=poles, rows=rows))

    def test_told_values(self):
        self.assertEqual(str(FedScene(NET, DEMANDS)), PIPES + "fed\ndemand a 2\ndemand d -2\n")
        self.assertEqual(str(FedScene(NET, dict.fromkeys("abcd", 0))), PIPES + "fed\n")
        self.assertEqual(str(HeldScene(NET, POLES, *ROWS)),
                         PIPES + "held\npole a 9/2\npole d 0\nreading b >= c\nreading a > d\n")


class Answers(unittest.TestCase):
    def test_fed(self):
        rng = chance(122)
        for net in NETS.values():
            for _ in range(3):
                demands = some_demands(rng, net)
                scene = FedScene(net, demands)
                for u, v in itertools.product(net.nodes, repeat=2):
                    self.assertEqual(scene.compare(u, v), fed_compare(net, demands, u, v))
                for pipe in net:
                    self.assertEqual(scene.direction(pipe), fed_direction(net, demands, pipe))
                for levels in all_orders(net.nodes):
                    order = Order(levels)
                    self.assertIs(scene.allows(order), fed_drains(net, demands, order) is not None)

    def test_held(self):
        rng = chance(123)
        for net in NETS.values():
            for many in (0, 0, 1, 2, 4):
                poles, rows = some_poles(rng, net), some_readings(rng, net, many)
                scene = HeldScene(net, poles, *rows)
                readings = Readings(net, poles)
                readings += rows
                for u, v in itertools.product(net.nodes, repeat=2):
                    if not rows:
                        self.assertEqual(scene.compare(u, v), held_compare(net, poles, u, v))
                    elif readings.is_possible():
                        self.assertEqual(scene.compare(u, v), readings.comes(u, v))
                    else:
                        with self.assertRaises(Barred):
                            scene.compare(u, v)
                for pipe in net:
                    self.assertEqual(scene.direction(pipe), held_direction(net, poles, pipe))
                for levels in all_orders(net.nodes):
                    right = held_order_fault(net, poles, levels) is None and all(is_reading_true(levels, row) for row in rows)
                    self.assertIs(scene.allows(Order(levels)), right, (net, poles, rows, levels))
                self.assertEqual(scene.readings, readings.rows())

    def test_told_values(self):
        self.assertEqual(FedScene(NET, DEMANDS).compare(v="b", u="a"), "above")
        self.assertEqual(HeldScene(NET, POLES).compare("b", "c"), "open")
        scene = HeldScene(NET, POLES, *ROWS)
        self.assertEqual(scene.compare(v="c", u="b"), ("above", "level"))
        self.assertEqual((scene.direction(pipe="bc"), scene.direction("ab")), ("open", "along"))
        self.assertIs(scene.allows(order=Order.of(["a"], ["b"], ["c"], ["d"])), True)
        self.assertIs(scene.allows(Order.of(["a"], ["c"], ["b"], ["d"])), False)
        self.assertIs(HeldScene(NET, POLES).allows(Order.of(["a"], ["c"], ["b"], ["d"])), True)

    def test_errors(self):
        barred = HeldScene(NET, POLES, ("b", ">", "c"), ("c", ">", "b"))
        for scene in (FedScene(NET, DEMANDS), HeldScene(NET, POLES), HeldScene(NET, POLES, *ROWS), barred):
            for value in [*STRANGE, "e", 0, ["a"], ("a",), {}]:
                for call in (lambda: scene.compare(value, "zz"), lambda: scene.compare("a", value)):
                    with self.assertRaises(UnknownNode) as caught:
                        call()
                    self.assertIs(caught.exception.value, value)
            for value in [*STRANGE, "a", "zz", 0, ["ab"]]:
                with self.assertRaises(UnknownPipe) as caught:
                    scene.direction(value)
                self.assertIs(caught.exception.value, value)
            for value in [*STRANGE, "a > b,c > d", [["a"], ["b", "c"], ["d"]], Order.of(["a"], ["b"]),
                          Order.of(["a"], ["b", "c"], ["d"], ["e"]), 1]:
                with self.assertRaises(InvalidOrder) as caught:
                    scene.allows(value)
                self.assertIs(caught.exception.value, value)
        self.assertEqual(barred.direction("ab"), "along")
        self.assertIs(barred.allows(Order.of(["a"], ["b", "c"], ["d"])), False)

    def test_a_net_with_the_same_nodes(self):
        other = Net({"x": ("a", "b")})
        self.assertEqual(HeldScene(other, {"a": 1}).compare("a", "b"), "level")


if __name__ == "__main__":
    unittest.main()
