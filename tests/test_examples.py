"""The examples of DOC.md, word for word; of stage 6 those parts that need no more than orders."""

import doctest
import unittest

STAGE_1 = """
>>> from surepipes.amounts import Amount
>>> from surepipes.curves import Curve
>>> [str(Amount(6, -4)), 1 - Amount(1, 3) * 2 == Amount(1, 3), Amount(1, 2) < Amount(2, 3), str(Amount.sum_of(1, Amount(1, 2)))]
['-3/2', True, True, '3/2']
>>> wide, bent = Curve.straight(2), Curve([(1, 1), (2, 4)])
>>> [str(wide(3)), str(bent(-1)), str(bent(3)), str((wide + bent)(2)), str((wide | bent).back(1))]
['3/2', '-1', '7', '5', '3']
"""

STAGE_2 = """
>>> from surepipes.nets import Net
>>> from surepipes.cuts import cuts, seen, ways
>>> net = Net({"ab": ("a", "b"), "ac": ("a", "c"), "bc": ("b", "c"), "bd": ("b", "d"), "cd": ("c", "d")})
>>> [net.nodes, net["bc"], net.neighbours("a"), net.bridges(), "bc" in net, len(net.without("bc"))]
[('a', 'b', 'c', 'd'), ('b', 'c'), ['b', 'c'], [], True, 4]
>>> list(Net({"q": ("a", "b"), "p": ("b", "c")}))
['p', 'q']
>>> [list(cuts(net, "b", "c")), list(ways(net, "a", "d", avoid=["c"])), seen(net, {"a": 1, "c": 0}, "d")]
[[('b',), ('a', 'b'), ('b', 'd'), ('a', 'b', 'd')], [('a', 'b', 'd')], ['a', 'c']]
"""

STAGE_3 = """
>>> from surepipes.states import balances, fed_state, held_state
>>> even = {"ab": 1, "ac": 1, "bc": 1, "bd": 1, "cd": 1}
>>> state = fed_state(net, {"a": 2, "b": 0, "c": 0, "d": -2}, even)
>>> [str(state.flows["ab"]), str(state.flows["bc"]), str(state.heights["d"]), str(balances(net, state.flows)["d"])]
['1', '0', '-2', '-2']
>>> [str(height) for height in held_state(net, {"a": 9, "d": 0}, {"ab": 2, "ac": 1, "bc": 1, "bd": 1, "cd": 1}).heights.values()]
['9', '63/11', '54/11', '0']
"""

STAGE_4 = """
>>> from surepipes.flows import bad_ring, ranks
>>> from surepipes.ranges import cut_sums, flow_stretch
>>> demands = {"a": 2, "b": 0, "c": 0, "d": -2}
>>> [str(flow_stretch(net, demands, "ab")), str(flow_stretch(net, demands, "bc")), len(cut_sums(net, demands, "bc"))]
['(0, 2)', '(-2, 2)', 3]
>>> [ranks(net, {"ab": 1, "ac": 1, "bc": 0, "bd": 1, "cd": 1}), bad_ring(Net.of(p=("a", "b"), q=("b", "a")), {"p": 1, "q": 0})]
[{'a': 2, 'b': 1, 'c': 1, 'd': 0}, [('p', 1), ('q', 1)]]
"""

STAGE_5 = """
>>> from surepipes.signs import fed_compare, fed_direction, gives, held_compare, height_stretch, lower_ways
>>> [fed_compare(net, demands, "a", "b"), fed_compare(net, demands, "b", "c"), fed_direction(net, demands, "bd")]
['above', 'open', 'along']
>>> poles = {"a": 9, "d": 0}
>>> [held_compare(net, poles, "b", "c"), lower_ways(net, poles, "b", "c"), str(height_stretch(net, poles, "b")), gives(net, poles, "a")]
['open', (('b', 'd'), ('c', 'a')), '(0, 9)', 'gives']
"""

STAGE_6 = """
>>> from surepipes.orders import Order
>>> order = Order([["a"], ["c"], ["b"], ["d"]])
>>> [str(order), order["b"]]
['a > c > b > d', 2]
>>> list(Order.of(["b", "a"], ["c"]))
[('a', 'b'), ('c',)]
"""


class Examples(unittest.TestCase):
    def test_one_after_another(self):
        # A later example uses names of an earlier one.
        names = {}
        for at, text in enumerate((STAGE_1, STAGE_2, STAGE_3, STAGE_4, STAGE_5, STAGE_6), 1):
            test = doctest.DocTestParser().get_doctest(text, names, f"stage {at}", None, 0)
            said = []
            result = doctest.DocTestRunner(verbose=False).run(test, out=said.append, clear_globs=False)
            names = test.globs
            self.assertGreater(result.attempted, 0)
            self.assertEqual(result.failed, 0, "".join(said))


if __name__ == "__main__":
    unittest.main()
