"""surepipes/orders.py: the class Order."""

import itertools
import unittest

from plain import STRANGE, chance, fraction
from surepipes.amounts import Amount
from surepipes.errors import InvalidHeights, InvalidLevels, UnknownNode
from surepipes.orders import Order

SHAPES = [[["a"]], [["b", "a"]], [["a"], ["b"]], [["b"], ["a"]], [["a"], ["c", "b"], ["d"]], [["c", "a", "b"]],
          [["nodename", "b"], ["zzzzzzzz"], ["a", "ab", "aa"]], [["h"], ["g"], ["f"], ["e"], ["d"], ["c"], ["b"], ["a"]]]


class Making(unittest.TestCase):
    def test_levels(self):
        for shape in SHAPES:
            wanted = [tuple(sorted(level)) for level in shape]
            for levels in (shape, tuple(shape), [tuple(level) for level in shape], tuple(map(tuple, shape))):
                order = Order(levels)
                self.assertEqual(order.levels(), wanted)
                self.assertEqual(list(order), wanted)
                self.assertIs(type(order.levels()), list)
                self.assertTrue(all(type(level) is tuple for level in order))
                self.assertEqual(len(order), len(shape))
                self.assertEqual(order.nodes, tuple(sorted(itertools.chain(*shape))))
                self.assertIs(type(order.nodes), tuple)
                for position, level in enumerate(shape):
                    for node in level:
                        self.assertEqual(order[node], position)
                        self.assertIs(node in order, True)
            self.assertEqual(Order.of(*shape), Order(levels=shape))
            self.assertIs(type(Order.of(*shape)), Order)

    def test_what_is_passed_and_returned_is_copied(self):
        shape = [["b", "a"], ["c"]]
        order = Order(shape)
        self.assertEqual(shape, [["b", "a"], ["c"]])
        shape[0].append("z")
        shape.append(["y"])
        order.levels().clear()
        self.assertEqual(order, Order([["a", "b"], ["c"]]))
        self.assertEqual(len(order.levels()), 2)
        with self.assertRaises(AttributeError):
            order.nodes = ()

    def test_any_number_of_nodes(self):
        letters = "abcdefghijklmnopqrst"
        order = Order([[letter] for letter in letters])
        self.assertEqual((len(order), order["t"], order.nodes), (20, 19, tuple(letters)))

    def test_texts(self):
        order = Order([["a"], ["c", "b"], ["d"]])
        self.assertEqual((str(order), repr(order)), ("a > b,c > d", "Order([('a',), ('b', 'c'), ('d',)])"))
        self.assertEqual((str(Order.of(["a"])), repr(Order.of(["a"]))), ("a", "Order([('a',)])"))
        self.assertEqual(str(Order.of(["b", "ab", "a"])), "a,ab,b")
        for shape in SHAPES:
            self.assertEqual(eval(repr(Order(shape))), Order(shape))

    def test_equal(self):
        for one, first in enumerate(SHAPES):
            for other, second in enumerate(SHAPES):
                self.assertIs(Order(first) == Order(second), one == other)
                self.assertIs(Order(first) != Order(second), one != other)
        self.assertEqual(Order([["a", "b"], ["c"]]), Order([["b", "a"], ["c"]]))
        for value in [*STRANGE[:-2], [("a",)], "a", "Order([('a',)])"]:
            self.assertIs(Order([["a"]]) == value, False)

    def test_turned(self):
        self.assertEqual(Order([["a"], ["b", "c"], ["d"]]).turned(), Order([["d"], ["c", "b"], ["a"]]))
        for shape in SHAPES:
            order = Order(shape)
            self.assertIs(type(order.turned()), Order)
            self.assertEqual(order.turned().levels(), order.levels()[::-1])
            self.assertEqual(order.turned().turned(), order)
            self.assertEqual(order, Order(shape))


class Wrong(unittest.TestCase):
    def position(self, levels):
        with self.assertRaises(InvalidLevels) as caught:
            Order(levels)
        return caught.exception.position

    def test_no_list_with_an_element(self):
        for value in [*STRANGE, [], (), {}, {"a": 1}, "a", 1, Order([["a"]]), iter([["a"]]), {("a",)}, range(1)]:
            self.assertIsNone(self.position(value))
        with self.assertRaises(InvalidLevels) as caught:
            Order.of()
        self.assertIsNone(caught.exception.position)

    def test_no_lists_of_names(self):
        for wrong in [*STRANGE, "a", [], (), {}, {"x": 1}, 1, [1], [None], ["x", None], ["x", True], ["X"], [""],
                      ["longnames"], ["x", ["y"]], [("x",)], {"x"}, ["x", b"y"], [STRANGE[-2]], Order([["x"]])]:
            self.assertEqual(self.position([wrong]), 0)
            self.assertEqual(self.position([["a"], wrong]), 1)
            self.assertEqual(self.position([["a"], ["b", "c"], wrong, ["a"], None]), 2)
            with self.assertRaises(InvalidLevels) as caught:
                Order.of(["a"], wrong)
            self.assertEqual(caught.exception.position, 1)

    def test_names_that_stand_twice(self):
        self.assertEqual(self.position([["a", "a"]]), 0)
        self.assertEqual(self.position([["a"], ["b", "c", "b"]]), 1)
        self.assertEqual(self.position([["a"], ["b"], ["a"]]), 2)
        self.assertEqual(self.position([["a", "b"], ["c", "b"], None]), 1)
        self.assertEqual(self.position([["a"], None, ["a"]]), 1)
        self.assertEqual(self.position([["a"], ["a"], None]), 1)

    def test_what_is_no_node(self):
        order = Order([["a"], ["b"]])
        for value in [*STRANGE, "c", "ab", 0, 1, ["a"], ("a",), {}, Amount(0)]:
            self.assertIs(value in order, False)
            with self.assertRaises(UnknownNode) as caught:
                order[value]
            self.assertIs(caught.exception.value, value)


class OfHeights(unittest.TestCase):
    def test_against_plain_sorting(self):
        rng = chance(50)
        for _ in range(200):
            names = rng.sample(["a", "b", "c", "d", "e", "f", "g", "nodename"], rng.randrange(1, 9))
            heights = {name: rng.choice([rng.randrange(-2, 3), Amount(rng.randrange(-4, 5), 2)]) for name in names}
            order = Order.of_heights(heights)
            rows = sorted({fraction(height) for height in heights.values()}, reverse=True)
            wanted = [tuple(sorted(name for name in names if fraction(heights[name]) == row)) for row in rows]
            self.assertEqual(order.levels(), wanted)
            self.assertEqual(Order.of_heights(heights=heights), order)

    def test_told_values(self):
        heights = {"d": 0, "b": Amount(1, 2), "c": Amount(2, 4), "a": 3}
        self.assertEqual(str(Order.of_heights(heights)), "a > b,c > d")
        self.assertEqual(list(heights), ["d", "b", "c", "a"])
        self.assertEqual(Order.of_heights({"a": 0}), Order([["a"]]))

    def test_no_dict_from_names(self):
        for value in [*STRANGE, {}, [], [("a", 1)], 1, {1: 1}, {"A": 1}, {"a": 1, "": 1}, {None: None}, {"a": None, 1: 1},
                      {("a",): 1}, {"longnames": 1}, Order([["a"]])]:
            with self.assertRaises(InvalidHeights) as caught:
                Order.of_heights(value)
            self.assertIsNone(caught.exception.node)

    def test_values_that_are_no_amounts(self):
        for wrong in [*STRANGE, "1", [1], (), {}]:
            for heights, node in (({"b": wrong}, "b"), ({"b": 1, "a": wrong}, "a"), ({"c": wrong, "a": None}, "c")):
                with self.assertRaises(InvalidHeights) as caught:
                    Order.of_heights(heights)
                self.assertEqual(caught.exception.node, node)


if __name__ == "__main__":
    unittest.main()
