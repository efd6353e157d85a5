"""surepipes/readings.py: the class Readings, steps and closed lists, against all orders and all sets of nodes."""

import itertools
import unittest

from plain import (GREAT, SMALL, STRANGE, Hostile, all_orders, all_sets, chance, ends_of, fraction, held_heights,
                   held_order_fault, is_reading_true, levels_of, places_of, some_conductances, some_net, some_poles,
                   some_readings)
from surepipes.amounts import Amount
from surepipes.errors import (Barred, InvalidPoles, InvalidReading, InvalidWord, TooMany, UnknownNode, UnknownReading)
from surepipes.nets import Net
from surepipes.orders import Order
from surepipes.readings import Readings
from surepipes.signs import held_compare

RNG = chance(70)
NETS = {name: net for name, net in SMALL.items() if len(net.nodes) < 5}
NETS = {**NETS, **{f"chance {at}": some_net(RNG, 4, RNG.randrange(3, 8)) for at in range(4)}}
FIVE = {**{name: net for name, net in SMALL.items() if len(net.nodes) == 5},
        **{f"five {at}": some_net(RNG, 5, RNG.randrange(4, 9)) for at in range(3)}}
NET = SMALL["bridged"]
POLES = {"a": 9, "d": 0}
NO_NODES = [*STRANGE, "e", "ab", 0, 1, ["a"], ("a",), {}, Amount(1)]
NO_WORDS = [*STRANGE, "<", "<=", "==", "above", 1, [">"], (">",), {}]
NO_READINGS = [*STRANGE, (), ("a", ">"), ("a", ">", "b", "c"), ["a", ">", "b"], ("e", ">", "b"), ("a", ">", "e"),
               ("a", "<", "b"), ("a", "b", ">"), "a>b", (None, ">", "b"), ("a", None, "b"), ("a", ">", True),
               (Hostile(), ">", "a"), ("a", Hostile(), "b"), (["a"], ">", "b"), ("a", [">"], "b"), {"a": ">"}]
ANSWERS = ("above", "level", "below")
PAIRS = list(itertools.product("abcd", repeat=2))


def made(net, poles, rows):
    readings = Readings(net, poles)
    readings += rows
    return readings


def kept_orders(net, poles, rows):
    """All orders that keep the readings, by what points 63 and 71 tell."""
    return [levels for levels in all_orders(net.nodes) if held_order_fault(net, poles, levels) is None
            and all(is_reading_true(levels, row) for row in rows)]


def is_step(net, poles, rows, above, level):
    """Point 72, word for word, with sets."""
    below = set(net.nodes) - above - level
    for node in level - set(poles):
        near = {far for pair in ends_of(net).values() if node in pair for far in pair} - {node}
        if not (near & above and near & below) and not near <= level:
            return False
    outside = [pole for pole in poles if pole not in above]
    top = max((fraction(poles[pole]) for pole in outside), default=None)
    if level & set(poles) and level & set(poles) != {pole for pole in outside if fraction(poles[pole]) == top}:
        return False
    for u, word, v in rows:
        if word == ">" and v in level and u not in above:
            return False
        if word == "=" and (u in level) != (v in level):
            return False
        if word == ">=" and v in level and u not in above | level:
            return False
    return True


def plain_is_closed(net, poles, rows, value):
    sets = [set(nodes) for nodes in value]
    if set() not in sets or set(net.nodes) in sets:
        return False
    for above in sets:
        rest = [node for node in net.nodes if node not in above]
        for level in all_sets(rest):
            if level and is_step(net, poles, rows, above, set(level)) and above | set(level) not in sets:
                return False
    return True


def come(orders, u, v):
    found = {places_of(levels)[v] - places_of(levels)[u] for levels in orders}
    return tuple(answer for answer, there in zip(ANSWERS, (any(x > 0 for x in found), 0 in found,
                                                           any(x < 0 for x in found))) if there)


def places(orders, poles, node):
    """The places of a node, out of all orders that keep the readings."""
    heights = sorted({fraction(height) for height in poles.values()}, reverse=True)
    tables = [places_of(levels) for levels in orders]
    at = {height: [pole for pole in poles if fraction(poles[pole]) == height][0] for height in heights}
    found = []
    for position, height in enumerate(heights):
        if any(table[node] == table[at[height]] for table in tables):
            found.append(("at", height))
        for low in heights[position + 1:position + 2]:
            if any(table[at[height]] < table[node] < table[at[low]] for table in tables):
                found.append(("between", height, low))
    return found


class Search(unittest.TestCase):
    def check(self, net, poles, rows):
        """All answers, against all orders; never both of two opposite answers have something that shows them."""
        readings = made(net, poles, rows)
        rows = readings.rows()
        orders = kept_orders(net, poles, rows)
        told = (net, poles, rows)
        self.assertIs(readings.is_possible(), bool(orders), told)
        order, closed = readings.an_order(), readings.closed_list()
        self.assertEqual((order is None, closed is None), (not orders, bool(orders)), told)
        if orders:
            self.assertIs(type(order), Order)
            self.assertIn(order.levels(), orders, told)
            self.assertIs(readings.keeps(order), True)
            self.assertIsNone(readings.needed())
        else:
            self.assertIs(type(closed), list)
            self.assertTrue(all(nodes in all_sets(net.nodes) for nodes in closed))
            self.assertTrue(plain_is_closed(net, poles, rows, closed), told)
            self.assertIs(readings.is_closed_list(closed), True, told)
            self.check_needed(net, poles, readings)
        return orders

    def check_needed(self, net, poles, readings):
        found = readings.needed()
        self.assertIs(type(found), list)
        self.assertEqual(found, [row for row in readings if row in found])
        self.assertEqual(kept_orders(net, poles, found), [])
        for row in found:
            self.assertNotEqual(kept_orders(net, poles, [other for other in found if other != row]), [])

    def check_comparisons(self, net, poles, rows, orders):
        readings = made(net, poles, rows)
        for u, v in itertools.product(net.nodes, repeat=2):
            wanted = come(orders, u, v)
            if orders:
                self.assertEqual(readings.comes(u, v), wanted, (net, poles, rows, u, v))
                self.assertIs(type(readings.comes(u, v)), tuple)
            else:
                with self.assertRaises(Barred):
                    readings.comes(u, v)
            for answer in ANSWERS:
                found = readings.order_with(u, answer, v)
                self.assertEqual(found is not None, answer in wanted, (net, poles, rows, u, answer, v))
                if found is not None:
                    self.assertIn(found.levels(), orders)
                    self.assertIn(answer, come([found.levels()], u, v))

    def check_places(self, net, poles, rows, orders):
        readings = made(net, poles, rows)
        for node in net.nodes:
            if orders:
                found = readings.places(node)
                self.assertTrue(type(found) is list and all(type(row) is tuple for row in found))
                self.assertTrue(all(type(amount) is Amount for row in found for amount in row[1:]))
                plain = [(row[0], *map(fraction, row[1:])) for row in found]
                self.assertEqual(plain, places(orders, poles, node), (net, poles, rows, node))
            else:
                with self.assertRaises(Barred):
                    readings.places(node)

    def test_against_all_orders(self):
        rng = chance(71)
        seen = set()
        for net in NETS.values():
            for many in (0, 1, 2, 2, 3, 3, 4, 6):
                poles = some_poles(rng, net)
                rows = some_readings(rng, net, many)
                orders = self.check(net, poles, rows)
                self.check_comparisons(net, poles, rows, orders)
                self.check_places(net, poles, rows, orders)
                seen.add(bool(orders))
        self.assertEqual(seen, {True, False})

    def test_against_all_orders_of_five_nodes(self):
        rng = chance(72)
        for net in FIVE.values():
            for many in (2, 3, 5):
                poles = some_poles(rng, net)
                self.check(net, poles, some_readings(rng, net, many))

    def test_keeps_of_all_orders(self):
        rng = chance(73)
        for net in NETS.values():
            for many in (0, 1, 3):
                poles = some_poles(rng, net)
                rows = some_readings(rng, net, many)
                readings = made(net, poles, rows)
                kept = kept_orders(net, poles, rows)
                for levels in all_orders(net.nodes):
                    self.assertIs(readings.keeps(Order(levels)), levels in kept, (net, poles, rows, levels))

    def test_closed_lists_that_are_changed(self):
        rng = chance(74)
        for net in NETS.values():
            for many in (2, 4, 6):
                poles = some_poles(rng, net)
                rows = some_readings(rng, net, many)
                readings = made(net, poles, rows)
                everything = list(all_sets(net.nodes))
                closed = readings.closed_list() or everything[:-1]
                values = [closed, closed[::-1], tuple(closed), closed + closed[-1:], [*closed, net.nodes], everything]
                values += [[nodes for nodes in closed if nodes != gone] for gone in closed]
                values += [[*closed, more] for more in everything]
                values += [[nodes for nodes in everything if rng.random() < 0.8] for _ in range(5)]
                for value in values:
                    self.assertIs(readings.is_closed_list(value), plain_is_closed(net, poles, rows, value),
                                  (net, poles, rows, value))

    def test_without_readings_it_is_as_without_them(self):
        rng = chance(75)
        words = {"above": ("above",), "level": ("level",), "below": ("below",), "open": ANSWERS}
        for net in [*NETS.values(), *FIVE.values(), GREAT]:
            for _ in range(2):
                poles = some_poles(rng, net)
                readings = Readings(net, poles)
                for u, v in itertools.combinations(net.nodes, 2):
                    self.assertEqual(readings.comes(u, v), words[held_compare(net, poles, u, v)], (net, poles, u, v))

    def test_eight_nodes_sixteen_pipes_sixteen_readings(self):
        rng = chance(76)
        poles = {"a": 3, "g": 1, "d": Amount(5, 2)}
        heights = held_heights(GREAT, poles, some_conductances(rng, GREAT))
        above = [(u, ">", v) for u, v in itertools.permutations("abcdefgh", 2) if heights[u] > heights[v]]
        rows = rng.sample(above, 16)
        readings = made(GREAT, poles, rows)
        self.assertTrue(readings.keeps(Order(levels_of(heights))))
        order = readings.an_order()
        self.assertIsNone(held_order_fault(GREAT, poles, order.levels()))
        self.assertTrue(all(is_reading_true(order.levels(), row) for row in rows))
        u, _, v = rows[7]
        self.assertEqual(readings.comes(u, v), ("above",))
        self.assertIsNone(readings.order_with(u, "level", v))
        self.assertIsNone(readings.order_with(v, "above", u))
        self.assertEqual([row[0] for row in readings.places("a")], ["at"])
        readings.drop(u, v)
        readings[v, u] = "="
        barred = readings.is_possible()
        self.assertEqual(barred, readings.closed_list() is None)

    def test_one_pole_and_equal_heights(self):
        for poles in ({"b": 1}, {"a": Amount(1, 2), "d": Amount(2, 4)}, dict.fromkeys("abcd", 3)):
            readings = Readings(NET, poles)
            self.assertEqual(readings.an_order(), Order([["a", "b", "c", "d"]]))
            self.assertEqual({readings.comes(u, v) for u, v in PAIRS}, {("level",)})
            self.assertEqual([readings.places(node) for node in "abcd"], [[("at", list(readings.poles.values())[0])]] * 4)
            readings["b", "c"] = ">"
            self.assertEqual(readings.needed(), [("b", ">", "c")])
            self.assertTrue(plain_is_closed(NET, poles, [("b", ">", "c")], readings.closed_list()))

    def test_above_and_below_can_come_without_level(self):
        # x and y lie between u and v, or all four are level.
        net = Net({"p": ("a", "u"), "q": ("u", "d"), "r": ("a", "v"), "s": ("v", "d"), "t": ("u", "x"), "w": ("x", "v"),
                   "y": ("u", "y"), "z": ("y", "v")})
        readings = made(net, POLES, [("y", ">", "x")])
        self.assertEqual(readings.comes("u", "v"), ("above", "below"))
        self.assertEqual(readings.comes("x", "y"), ("below",))
        self.assertEqual(readings.comes("u", "x"), ("above", "below"))
        self.assertIsNone(readings.order_with("u", "level", "v"))
        self.assertEqual(come(kept_orders(net, POLES, readings.rows()), "u", "v"), ("above", "below"))

    def test_a_node_and_itself(self):
        for word, right in ((">", False), ("=", True), (">=", True)):
            readings = made(NET, POLES, [("b", word, "b")])
            self.assertIs(readings.is_possible(), right)
            self.assertEqual(readings.needed(), None if right else [("b", ">", "b")])
            self.assertEqual(list(readings), [("b", word, "b")])
        self.assertEqual(Readings(NET, POLES).comes("b", "b"), ("level",))
        self.assertIsNone(Readings(NET, POLES).order_with("b", "above", "b"))

    def test_one_reading_more_for_the_same_nodes_and_beyond_the_limit(self):
        rows = [(u, ">=", v) for u, v in PAIRS if (u, v) in {("a", x) for x in "abcd"} | {(x, "d") for x in "abcd"}]
        rows += [("b", ">=", "c"), ("b", "=", "b"), ("c", "=", "c"), ("c", ">=", "a"), ("d", ">=", "a"), ("d", ">=", "b"),
                 ("c", ">=", "b"), ("d", ">=", "c"), ("b", ">=", "a")]
        readings = made(NET, {"a": 1}, rows[:16])
        self.assertEqual(len(readings), 16)
        self.assertEqual(readings.comes("a", "b"), ("level",))
        self.assertEqual(readings.places("c"), [("at", Amount(1))])
        readings = made(NET, POLES, [("b", ">=", "c")])
        self.assertEqual(readings.comes("b", "c"), ("above", "level"))
        self.assertIsNone(readings.order_with("b", "below", "c"))
        self.assertEqual(readings.rows(), [("b", ">=", "c")])

    def test_needed_keeps_the_sequence(self):
        readings = made(NET, POLES, [("a", ">", "b"), ("c", ">", "b"), ("a", ">", "c"), ("b", ">=", "c"), ("b", ">", "d")])
        self.assertEqual(readings.needed(), [("c", ">", "b"), ("b", ">=", "c")])
        self.assertEqual(len(readings), 5)

    def test_told_values(self):
        readings = made(NET, POLES, [("b", ">=", "c")])
        self.assertEqual(readings.comes("a", "b"), ("above",))
        self.assertEqual([[row[0], *map(str, row[1:])] for row in readings.places("b")], [["between", "9", "0"]])


class Keeping(unittest.TestCase):
    """What the object holds, and what is raised."""

    def setUp(self):
        self.readings = Readings(NET, POLES)

    def caught(self, error, deed, value):
        before = self.readings.rows()
        with self.assertRaises(error) as caught:
            deed()
        self.assertIs(type(caught.exception), error)
        self.assertEqual(self.readings.rows(), before)
        found = list(vars(caught.exception).values())
        self.assertEqual(len(found), 1)
        self.assertTrue(found[0] is value or type(value) in (tuple, int) and found[0] == value)

    def test_set_and_read(self):
        readings = self.readings
        self.assertEqual((len(readings), list(readings), readings.rows()), (0, [], []))
        readings["b", "c"] = ">="
        readings["c", "b"] = ">"
        readings["d", "d"] = "="
        readings["b", "c"] = "="
        self.assertEqual(readings.rows(), [("b", "=", "c"), ("c", ">", "b"), ("d", "=", "d")])
        self.assertEqual((readings["b", "c"], readings["c", "b"], len(readings)), ("=", ">", 3))
        self.assertEqual(list(readings), readings.rows())
        self.assertEqual(readings.drop("b", "c"), "=")
        readings["b", "c"] = ">"
        self.assertEqual(list(readings), [("c", ">", "b"), ("d", "=", "d"), ("b", ">", "c")])
        self.assertEqual(readings.drop(v="d", u="d"), "=")

    def test_add(self):
        readings = same = self.readings
        readings += [("b", ">", "c"), ("c", "=", "c"), ("b", ">=", "c")]
        self.assertIs(readings, same)
        self.assertEqual(readings.rows(), [("b", ">=", "c"), ("c", "=", "c")])
        readings += (("c", ">", "b"), ("b", "=", "c"))
        self.assertEqual(readings.rows(), [("b", "=", "c"), ("c", "=", "c"), ("c", ">", "b")])
        readings += []
        readings += ()
        self.assertEqual(len(readings), 3)
        rows = [("d", "=", "d")]
        readings += rows
        rows.append(None)
        self.assertEqual((len(readings), rows), (4, [("d", "=", "d"), None]))

    def test_in(self):
        self.readings["b", "c"] = ">="
        self.assertIs(("b", ">=", "c") in self.readings, True)
        for value in [*NO_READINGS, ("b", ">", "c"), ("c", ">=", "b"), ("b", "c"), ["b", ">=", "c"], (Hostile(), ">=", "c"),
                      (Hostile(), Hostile(), Hostile()), self.readings]:
            self.assertIs(value in self.readings, False)

    def test_copies_that_are_returned(self):
        poles = {"d": 0, "a": 9}
        readings = Readings(poles=poles, net=NET)
        poles["b"] = 1
        self.assertEqual(list(readings.poles.items()), [("a", Amount(9)), ("d", Amount(0))])
        readings.poles.clear()
        readings.rows().append(("a", ">", "b"))
        self.assertEqual((len(readings), readings.poles), (0, {"a": Amount(9), "d": Amount(0)}))
        self.assertEqual(readings.net, NET)
        for name in ("net", "poles"):
            with self.assertRaises(AttributeError):
                setattr(readings, name, None)
        readings += [("b", ">", "c"), ("c", ">", "b")]
        for told in (readings.closed_list, readings.needed):
            first = told()
            told().clear()
            self.assertEqual(told(), first)
        readings.drop("c", "b")
        first = readings.places("b")
        readings.places("b").clear()
        self.assertEqual(readings.places("b"), first)
        self.assertEqual(readings.an_order(), readings.an_order())

    def test_changed_while_it_is_iterated(self):
        self.readings += [("b", ">", "c"), ("c", "=", "c"), ("d", "=", "d")]
        for u, _, v in self.readings:
            self.readings.drop(u, v)
        self.assertEqual(len(self.readings), 0)

    def test_copy(self):
        self.readings += [("b", ">", "c"), ("c", "=", "c")]
        other = self.readings.copy()
        self.assertIs(type(other), Readings)
        self.assertEqual((other.rows(), other.net, other.poles), (self.readings.rows(), NET, self.readings.poles))
        other["d", "d"] = "="
        self.readings.drop("b", "c")
        self.assertEqual(other.rows(), [("b", ">", "c"), ("c", "=", "c"), ("d", "=", "d")])
        self.assertEqual(self.readings.rows(), [("c", "=", "c")])

    def test_wrong_nodes_and_words(self):
        def put(u, v, word):
            self.readings[u, v] = word

        self.readings["b", "c"] = ">"
        for value in NO_NODES:
            self.caught(UnknownNode, lambda: put(value, "c", ">"), value)
            self.caught(UnknownNode, lambda: put("b", value, None), value)
            self.caught(UnknownNode, lambda: put(value, None, None), value)
        for value in NO_WORDS:
            self.caught(InvalidWord, lambda: put("b", "c", value), value)

    def test_missing_readings(self):
        self.readings["b", "c"] = ">"
        for u, v in [("c", "b"), ("b", "b"), *[(value, "c") for value in NO_NODES], *[("b", value) for value in NO_NODES]]:
            for deed in (lambda: self.readings[u, v], lambda: self.readings.drop(u, v)):
                with self.assertRaises(UnknownReading) as caught:
                    deed()
                found = caught.exception.value
                self.assertTrue(type(found) is tuple and len(found) == 2 and found[0] is u and found[1] is v)
        self.assertEqual(self.readings.rows(), [("b", ">", "c")])

    def test_sixteen(self):
        readings = self.readings
        readings += [(u, ">=", v) for u, v in PAIRS]
        self.assertEqual(len(readings), 16)
        readings["a", "b"] = "="
        readings += [("a", ">", "c"), ("a", "=", "d")]
        self.assertEqual(len(readings), 16)

    def test_more_than_sixteen(self):
        five = FIVE["five"]
        pairs = list(itertools.product(five.nodes, repeat=2))
        for many, right in ((16, True), (17, False)):
            for deed in ("add", "tried", "tried_by"):
                readings = Readings(five, {"a": 1})
                readings["a", "a"] = "="
                rows = [(u, ">=", v) for u, v in pairs[1:many]] + [("a", ">", "a")]

                def act():
                    nonlocal readings
                    if deed == "add":
                        readings += rows
                    elif deed == "tried":
                        with readings.tried(*rows) as same:
                            self.assertIs(same, readings)
                            self.assertEqual(len(readings), 16)
                    else:
                        self.assertEqual(readings.tried_by(rows, len), 16)

                if right:
                    act()
                    self.assertEqual(readings["a", "a"], ">" if deed == "add" else "=")
                    continue
                with self.assertRaises(TooMany) as caught:
                    act()
                self.assertEqual((caught.exception.what, caught.exception.limit), ("readings", 16))
                self.assertEqual(readings.rows(), [("a", "=", "a")])
        readings = Readings(five, {"a": 1})
        readings += [(u, ">=", v) for u, v in pairs[:16]]
        with self.assertRaises(InvalidWord):
            readings["e", "e"] = "<"
        with self.assertRaises(InvalidReading) as caught:
            readings += [("e", ">", "e"), ("e", ">", "d"), None]
        self.assertEqual(caught.exception.position, 2)
        with self.assertRaises(TooMany):
            readings["e", "e"] = ">"
        self.assertEqual(readings.rows(), [(u, ">=", v) for u, v in pairs[:16]])

    def test_wrong_rows(self):
        def add(rows):
            readings = self.readings
            readings += rows

        self.readings["b", "c"] = ">"
        for value in [*STRANGE, 1, {}, {("a", ">", "b"): 1}, iter([]), (row for row in []), self.readings, range(0), "abc"]:
            self.caught(InvalidReading, lambda: add(value), None)
            self.caught(InvalidReading, lambda: self.readings.tried_by(value, len), None)
        for value in NO_READINGS:
            self.caught(InvalidReading, lambda: add([value]), 0)
            self.caught(InvalidReading, lambda: add([("a", ">", "b"), value, None]), 1)
            self.caught(InvalidReading, lambda: add((("a", ">", "b"), ("a", ">", "c"), value)), 2)
            self.caught(InvalidReading, lambda: self.readings.tried_by([("a", ">", "b"), value], len), 1)

    def test_wrong_nodes_in_questions(self):
        for rows in ([], [("b", ">", "b")]):
            self.readings += rows
            for value in NO_NODES:
                self.caught(UnknownNode, lambda: self.readings.comes(value, "zz"), value)
                self.caught(UnknownNode, lambda: self.readings.comes("a", value), value)
                self.caught(UnknownNode, lambda: self.readings.places(value), value)
                self.caught(UnknownNode, lambda: self.readings.order_with(value, None, None), value)
                self.caught(UnknownNode, lambda: self.readings.order_with("a", "level", value), value)
            for value in [*STRANGE, "open", ">", "Above", 1, ["above"], ("above",), {}]:
                self.caught(InvalidWord, lambda: self.readings.order_with("a", value, "zz"), value)

    def test_barred(self):
        self.readings += [("b", ">", "c"), ("c", ">", "b")]
        for deed in (lambda: self.readings.comes("a", "b"), lambda: self.readings.places("a")):
            with self.assertRaises(Barred) as caught:
                deed()
            self.assertEqual(vars(caught.exception), {})
        self.assertIsNone(self.readings.order_with("a", "above", "b"))
        self.assertIs(self.readings.is_possible(), False)
        self.assertIsNone(self.readings.an_order())

    def test_wrong_poles(self):
        for value, node in ((None, None), ({}, None), ({"z": 1}, "z"), ({"a": 1, "b": None}, "b"), ([("a", 1)], None)):
            with self.assertRaises(InvalidPoles) as caught:
                Readings(NET, value)
            self.assertEqual(caught.exception.node, node)

    def test_keeps_and_closed_lists_of_any_value(self):
        order = Order.of(["a"], ["b"], ["c"], ["d"])
        self.assertIs(self.readings.keeps(value=order), True)
        for value in [*STRANGE, str(order), order.levels(), Order.of(["a"], ["b", "c"]), order.turned(), 1,
                      Order.of(["a"], ["b"], ["c"], ["d"], ["e"]), Order.of(["a", "b"], ["c"], ["d"])]:
            self.assertIs(self.readings.keeps(value), False)
        self.readings += [("b", ">", "c"), ("c", ">", "b")]
        closed = self.readings.closed_list()
        self.assertIs(self.readings.is_closed_list(value=closed), True)
        self.assertIs(self.readings.is_closed_list([*closed, *closed[::-1]]), True)
        for value in [*STRANGE, [], (), [()], ["a"], [("a",)], [*closed, None], [*closed, ["a"]], [*closed, ("b", "a")],
                      [*closed, ("a", "a")], [*closed, ("z",)], [*closed, "a"], [*closed, ("a", "b", "c", "d")], {(): 1},
                      dict.fromkeys(closed), iter(closed), [list(nodes) for nodes in closed], [*closed, Hostile()],
                      [*closed, (Hostile(),)], self.readings]:
            self.assertIs(self.readings.is_closed_list(value), False)


class Trials(unittest.TestCase):
    def setUp(self):
        self.readings = Readings(NET, POLES)
        self.readings["b", "c"] = ">="

    def test_in_the_statement_and_behind_it(self):
        readings = self.readings
        with readings.tried(("c", ">=", "b"), ("b", ">", "c")) as same:
            self.assertIs(same, readings)
            self.assertEqual(readings.rows(), [("b", ">", "c"), ("c", ">=", "b")])
            self.assertIs(readings.is_possible(), False)
        self.assertEqual(readings.rows(), [("b", ">=", "c")])
        with readings.tried():
            readings["d", "d"] = "="
            readings.drop("b", "c")
            self.assertEqual(readings.rows(), [("d", "=", "d")])
        self.assertEqual(readings.rows(), [("b", ">=", "c")])

    def test_an_error_ends_the_statement(self):
        for error in (KeyError, KeyboardInterrupt):
            with self.assertRaises(error):
                with self.readings.tried(("c", ">", "d")):
                    self.readings["a", "a"] = "="
                    raise error("x")
            self.assertEqual(self.readings.rows(), [("b", ">=", "c")])

    def test_errors_are_raised_when_the_statement_begins(self):
        trial = self.readings.tried(("c", ">", "d"), None)
        with self.assertRaises(InvalidReading) as caught:
            with trial:
                self.fail("it began")
        self.assertEqual(caught.exception.position, 1)
        self.assertEqual(self.readings.rows(), [("b", ">=", "c")])
        # What is tried is set when the statement begins, not when the trial is made.
        trial = self.readings.tried(("c", ">", "d"))
        self.assertEqual(len(self.readings), 1)
        self.readings["a", "a"] = "="
        with trial:
            self.assertEqual(len(self.readings), 3)
        self.assertEqual(self.readings.rows(), [("b", ">=", "c"), ("a", "=", "a")])

    def test_trials_within_trials(self):
        readings = self.readings
        with readings.tried(("c", ">", "d")):
            with readings.tried(("c", "=", "d")) as one, readings.tried(("a", ">", "d")):
                self.assertEqual(len(one), 3)
                readings.drop("c", "d")
            self.assertEqual(readings.rows(), [("b", ">=", "c"), ("c", ">", "d")])
            readings.drop("b", "c")
            with self.assertRaises(KeyError):
                with readings.tried(("a", "=", "a")):
                    raise KeyError
            self.assertEqual(readings.rows(), [("c", ">", "d")])
        self.assertEqual(readings.rows(), [("b", ">=", "c")])

    def test_one_trial_several_times(self):
        readings = self.readings
        trial = readings.tried(("c", ">", "d"))
        for _ in range(2):
            with trial:
                readings["a", "a"] = "="
                with trial:
                    readings["b", "c"] = ">"
                    self.assertEqual(len(readings), 3)
                self.assertEqual(readings.rows(), [("b", ">=", "c"), ("c", ">", "d"), ("a", "=", "a")])
            self.assertEqual(readings.rows(), [("b", ">=", "c")])

    def test_copies_and_trials_do_not_know_of_one_another(self):
        other = self.readings.copy()
        with self.readings.tried(("c", ">", "d")):
            inside = self.readings.copy()
            self.assertEqual(len(other), 1)
            other["a", "a"] = "="
        self.assertEqual((len(self.readings), len(other), len(inside)), (1, 2, 2))
        self.assertEqual(inside.rows(), [("b", ">=", "c"), ("c", ">", "d")])
        with other.tried(("d", "=", "d")), self.readings.tried(("a", ">", "d")):
            self.assertEqual((len(other), len(self.readings)), (3, 2))
        self.assertEqual((len(other), len(self.readings)), (2, 1))

    def test_added_in_the_statement(self):
        readings = self.readings
        with readings.tried(("c", ">", "d")) as same:
            same += [("a", "=", "a")]
            readings += [("d", "=", "d")]
            self.assertIs(same, readings)
            self.assertEqual(len(readings), 4)
        self.assertEqual(len(readings), 1)

    def test_tried_by(self):
        readings = self.readings
        self.assertEqual(readings.tried_by([("c", ">", "d")], Readings.rows), [("b", ">=", "c"), ("c", ">", "d")])
        self.assertIs(readings.tried_by(deed=lambda same: same, rows=()), readings)

        def deed(same):
            same.drop("b", "c")
            raise KeyError(len(same))

        with self.assertRaises(KeyError) as caught:
            readings.tried_by([("c", ">", "d")], deed)
        self.assertEqual(caught.exception.args, (1,))
        self.assertEqual(readings.rows(), [("b", ">=", "c")])
        inner = readings.tried_by([("c", ">", "d")], lambda same: same.tried_by([("a", "=", "a")], len))
        self.assertEqual((inner, len(readings)), (3, 1))


if __name__ == "__main__":
    unittest.main()
