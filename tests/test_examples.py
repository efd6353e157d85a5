"""The examples of DOC.md, word for word."""

import doctest
import unittest

STAGE_1 = """
>>> from surepipes.amounts import Amount
>>> from surepipes.curves import Curve
>>> [str(Amount(6, -4)), 1 - Amount(1, 3) * 2 == Amount(1, 3), Amount(1, 2) < Amount(2, 3), str(Amount.sum_of(1, Amount(1, 2)))]
['-3/2', True, True, '3/2']
>>> wide, bent = Curve.straight(2), Curve([(1, 1), (2, 4)])
>>> [str(wide(3)), str(bent(-1)), str(bent(3)), str((wide + bent)(2)), str((wide | bent).back(1))]
['3/2', '-1', '7', '5', '3']
"""

STAGE_2 = """
>>> from surepipes.nets import Net
>>> from surepipes.cuts import cuts, seen, ways
>>> net = Net({"ab": ("a", "b"), "ac": ("a", "c"), "bc": ("b", "c"), "bd": ("b", "d"), "cd": ("c", "d")})
>>> [net.nodes, net["bc"], net.neighbours("a"), net.bridges(), "bc" in net, len(net.without("bc"))]
[('a', 'b', 'c', 'd'), ('b', 'c'), ['b', 'c'], [], True, 4]
>>> list(Net({"q": ("a", "b"), "p": ("b", "c")}))
['p', 'q']
>>> [list(cuts(net, "b", "c")), list(ways(net, "a", "d", avoid=["c"])), seen(net, {"a": 1, "c": 0}, "d")]
[[('b',), ('a', 'b'), ('b', 'd'), ('a', 'b', 'd')], [('a', 'b', 'd')], ['a', 'c']]
"""

STAGE_3 = """
>>> from surepipes.states import balances, fed_state, held_state
>>> even = {"ab": 1, "ac": 1, "bc": 1, "bd": 1, "cd": 1}
>>> state = fed_state(net, {"a": 2, "b": 0, "c": 0, "d": -2}, even)
>>> [str(state.flows["ab"]), str(state.flows["bc"]), str(state.heights["d"]), str(balances(net, state.flows)["d"])]
['1', '0', '-2', '-2']
>>> [str(height) for height in held_state(net, {"a": 9, "d": 0}, {"ab": 2, "ac": 1, "bc": 1, "bd": 1, "cd": 1}).heights.values()]
['9', '63/11', '54/11', '0']
"""

STAGE_4 = """
>>> from surepipes.flows import bad_ring, ranks
>>> from surepipes.ranges import cut_sums, flow_stretch
>>> demands = {"a": 2, "b": 0, "c": 0, "d": -2}
>>> [str(flow_stretch(net, demands, "ab")), str(flow_stretch(net, demands, "bc")), len(cut_sums(net, demands, "bc"))]
['(0, 2)', '(-2, 2)', 3]
>>> [ranks(net, {"ab": 1, "ac": 1, "bc": 0, "bd": 1, "cd": 1}), bad_ring(Net.of(p=("a", "b"), q=("b", "a")), {"p": 1, "q": 0})]
[{'a': 2, 'b': 1, 'c': 1, 'd': 0}, [('p', 1), ('q', 1)]]
"""

STAGE_5 = """
>>> from surepipes.signs import fed_compare, fed_direction, gives, held_compare, height_stretch, lower_ways
>>> [fed_compare(net, demands, "a", "b"), fed_compare(net, demands, "b", "c"), fed_direction(net, demands, "bd")]
['above', 'open', 'along']
>>> poles = {"a": 9, "d": 0}
>>> [held_compare(net, poles, "b", "c"), lower_ways(net, poles, "b", "c"), str(height_stretch(net, poles, "b")), gives(net, poles, "a")]
['open', (('b', 'd'), ('c', 'a')), '(0, 9)', 'gives']
"""

STAGE_6 = """
>>> from surepipes.drains import block, fed_drains, held_fault
>>> from surepipes.orders import Order
>>> order = Order([["a"], ["c"], ["b"], ["d"]])
>>> [str(order), order["b"], fed_drains(net, demands, order) is None, block(net, demands, order.turned())]
['a > c > b > d', 2, False, ('d',)]
>>> list(Order.of(["b", "a"], ["c"]))
[('a', 'b'), ('c',)]
>>> held_fault(net, poles, Order.of(["a", "b"], ["c"], ["d"]))
('node', 'b')
"""

STAGE_7 = """
>>> from surepipes.readings import Readings
>>> readings = Readings(net, poles)
>>> readings["b", "c"] = ">="
>>> [readings.comes("b", "c"), readings.comes("a", "b"), str(readings.places("b")[0][1])]
[('above', 'level'), ('above',), '9']
>>> list(readings)
[('b', '>=', 'c')]
>>> readings["c", "b"] = ">"
>>> [readings.is_possible(), len(readings), readings["b", "c"], readings.drop("c", "b")]
[False, 2, '>=', '>']
"""

STAGE_8 = """
>>> from surepipes.several import compare_drops, fit_together, is_bar
>>> pair = Net.of(p=("a", "b"), q=("a", "b"))
>>> first, second = {"p": 1, "q": 3}, {"p": 2, "q": 3}
>>> [fit_together(pair, [first]), fit_together(pair, [first, second]), fit_together(pair, [{"p": 1, "q": 3}], {"p": "k", "q": "k"})]
[True, False, False]
>>> [is_bar(pair, [first, second], None, [{"p": -1, "q": 1}, {"p": 1, "q": -1}]), compare_drops(pair, [first], (0, "a", "b"), (0, "b", "a"))]
[True, 'above']
"""

STAGE_9 = """
>>> from surepipes.board import Board
>>> from surepipes.changes import fed_closing
>>> from surepipes.scenes import FedScene, HeldScene
>>> board = Board(FedScene(net, demands))
>>> [board.ask("compare b c"), board.ask("direction ab"), board.ask("range bc"), board.ask("close ab c d"), fed_closing(net, demands, "ab", "c", "d")]
['open', 'along', '-2 2', 'greater', 'greater']
>>> board.poles = {"a": 9, "d": 0}
>>> [board.ask("possible a > b,c > d"), board.ask("range b"), board.changes, board.undo(), board.ask("compare a b")]
['yes', '0 9', 1, None, 'above']
>>> board.scene = HeldScene(net, poles)
>>> board.demands = demands
>>> [board.changes, board.ask("compare b c"), board.undo(), board.ask("range b"), board.changes]
[2, 'open', None, '0 9', 1]
"""


STAGES = (STAGE_1, STAGE_2, STAGE_3, STAGE_4, STAGE_5, STAGE_6, STAGE_7, STAGE_8, STAGE_9)


class Examples(unittest.TestCase):
    def test_one_after_another(self):
        # A later example uses names of an earlier one.
        names = {}
        for at, text in enumerate(STAGES, 1):
            test = doctest.DocTestParser().get_doctest(text, names, f"stage {at}", None, 0)
            said = []
            result = doctest.DocTestRunner(verbose=False).run(test, out=said.append, clear_globs=False)
            names = test.globs
            self.assertGreater(result.attempted, 0)
            self.assertEqual(result.failed, 0, "".join(said))


if __name__ == "__main__":
    unittest.main()
