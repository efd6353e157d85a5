"""surepipes/ranges.py: the class Stretch, N(e), and the flows that a pipe can have."""

import itertools
import unittest

from plain import (GREAT, SMALL, STRANGE, all_cuts, amount, chance, fed_heights, flow_of, fraction, some_conductances,
                   some_demands, some_net)
from surepipes.amounts import Amount
from surepipes.errors import InvalidAmount
from surepipes.nets import Net
from surepipes.ranges import Stretch, are_conductances_for, conductances_for, cut_sums, flow_stretch
from surepipes.states import fed_state

RNG = chance(20)
NETS = {**SMALL, **{f"chance {at}": some_net(RNG, 5, RNG.randrange(5, 9)) for at in range(6)}}
NET = SMALL["bridged"]
DEMANDS = {"a": 2, "b": 0, "c": 0, "d": -2}
EVEN = dict.fromkeys(NET, 1)
PRIMES = (9999999967, 9999999943, 9999999929, 9999999881, 9999999851, 9999999833, 9999999817)


def plain_sums(net, demands, pipe):
    """N(e) out of all sets of nodes, as plain fractions."""
    tail, head = net[pipe]
    found = {sum(fraction(demands[node]) for node in cut) for cut in all_cuts(net, tail, head)}
    if not net.is_bridge(pipe):
        found.add(0)
    return sorted(found)


def cases():
    rng = chance(21)
    for name, net in NETS.items():
        for _ in range(4):
            yield name, net, some_demands(rng, net)
    yield "great", GREAT, some_demands(rng, GREAT)


def digits(conductances):
    return max(len(str(part)) for value in conductances.values() for part in (value.top, value.bottom))


class Stretches(unittest.TestCase):
    def test_ends(self):
        stretch = Stretch(0, Amount(3, 2))
        self.assertEqual((stretch.low, stretch.high, stretch.is_single), (Amount(0), Amount(3, 2), False))
        self.assertEqual((Stretch(2, 2).low, Stretch(2, 2).high, Stretch(2, 2).is_single), (Amount(2), Amount(2), True))
        self.assertEqual(Stretch(high=3, low=-3), Stretch(Amount(-3), Amount(6, 2)))
        for name in ("low", "high", "is_single"):
            with self.assertRaises(AttributeError):
                setattr(stretch, name, 1)

    def test_contains(self):
        values = [Amount(top, bottom) for top in range(-9, 10) for bottom in (1, 2, 3)] + list(range(-4, 5))
        for low, high in itertools.combinations_with_replacement((-2, Amount(-1, 2), 0, Amount(1, 3), 1, 2), 2):
            for value in values:
                wanted = fraction(low) < fraction(value) < fraction(high) or (
                    fraction(low) == fraction(value) == fraction(high))
                self.assertIs(value in Stretch(low, high), wanted, (low, high, value))
        for value in [*STRANGE, [], [1], "1", (1,), Stretch(0, 2), {}]:
            self.assertIs(value in Stretch(-9, 9), False)
            self.assertIs(value in Stretch(1, 1), False)

    def test_what_is_no_amount(self):
        for value in [*STRANGE, "1", [1], (), {}]:
            for low, high in ((value, 1), (1, value), (value, "z")):
                with self.assertRaises(InvalidAmount) as caught:
                    Stretch(low, high)
                self.assertIs(caught.exception.value, value)

    def test_high_below_low(self):
        for low, high in ((1, 0), (Amount(1, 2), Amount(1, 3)), (0, Amount(-1, 9)), (2, -2)):
            with self.assertRaises(InvalidAmount) as caught:
                Stretch(low, high)
            self.assertIs(caught.exception.value, high)

    def test_equal(self):
        for one in itertools.combinations_with_replacement((-1, 0, Amount(1, 2), 1), 2):
            for other in itertools.combinations_with_replacement((-1, 0, Amount(1, 2), 1), 2):
                self.assertIs(Stretch(*one) == Stretch(*other), one == other)
        for value in [*STRANGE[:-2], 1, Amount(1), (1, 1), "[1]"]:
            self.assertIs(Stretch(1, 1) == value, False)

    def test_texts(self):
        for low, high, text, shown in [(0, Amount(3, 2), "(0, 3/2)", "Stretch(Amount(0, 1), Amount(3, 2))"),
                                       (2, 2, "[2]", "Stretch(Amount(2, 1), Amount(2, 1))"),
                                       (Amount(-1, 2), Amount(-1, 2), "[-1/2]", "Stretch(Amount(-1, 2), Amount(-1, 2))"),
                                       (-7, Amount(-1, 3), "(-7, -1/3)", "Stretch(Amount(-7, 1), Amount(-1, 3))")]:
            self.assertEqual((str(Stretch(low, high)), repr(Stretch(low, high))), (text, shown))
            self.assertEqual(eval(shown), Stretch(low, high))

    def test_plus_and_turned(self):
        one, other = Stretch(1, 2), Stretch(-5, Amount(1, 2))
        self.assertEqual(one.plus(other), Stretch(-4, Amount(5, 2)))
        self.assertEqual(one.plus(other=Stretch(3, 3)), Stretch(4, 5))
        self.assertEqual(Stretch(3, 3).plus(Stretch(-3, -3)), Stretch(0, 0))
        self.assertEqual((one.turned(), other.turned()), (Stretch(-2, -1), Stretch(Amount(-1, 2), 5)))
        self.assertEqual(Stretch(3, 3).turned(), Stretch(-3, -3))
        self.assertEqual((one, other), (Stretch(1, 2), Stretch(-5, Amount(1, 2))))


class Sums(unittest.TestCase):
    def test_against_all_sets_of_nodes(self):
        for name, net, demands in cases():
            for pipe in net:
                found = cut_sums(net, demands, pipe)
                self.assertIs(type(found), list)
                self.assertTrue(all(type(value) is Amount for value in found))
                self.assertEqual([fraction(value) for value in found], plain_sums(net, demands, pipe), (name, pipe))
                self.assertEqual(flow_stretch(net, demands, pipe), Stretch(found[0], found[-1]))

    def test_told_values(self):
        self.assertEqual([str(value) for value in cut_sums(NET, DEMANDS, "bc")], ["-2", "0", "2"])
        path = SMALL["path"]
        told = {"a": 1, "b": Amount(1, 2), "c": 0, "d": Amount(-3, 2)}
        self.assertEqual([cut_sums(path, told, pipe) for pipe in path],
                         [[Amount(-3, 2)], [Amount(3, 2)], [Amount(1)]])
        self.assertEqual(str(flow_stretch(path, told, "p")), "[-3/2]")
        self.assertEqual(cut_sums(SMALL["two pipes"], {"a": 1, "b": -1}, "p"), [Amount(0), Amount(1)])
        self.assertEqual(cut_sums(SMALL["two pipes"], {"a": 1, "b": -1}, "q"), [Amount(-1), Amount(0)])
        self.assertEqual(cut_sums(SMALL["two pipes"], {"a": 0, "b": 0}, "q"), [Amount(0)])

    def test_a_returned_list_can_be_changed(self):
        cut_sums(NET, DEMANDS, "bc").clear()
        self.assertEqual(len(cut_sums(NET, DEMANDS, "bc")), 3)


class Flows(unittest.TestCase):
    def check(self, net, demands, pipe, wanted):
        """The conductances for a flow, which are reckoned anew."""
        found = conductances_for(net, demands, pipe, wanted)
        self.assertEqual(list(found), list(net))
        self.assertTrue(all(type(value) is Amount and value.sign == 1 for value in found.values()))
        heights = fed_heights(net, demands, found)
        self.assertEqual(flow_of(net, heights, found, pipe), fraction(wanted))
        self.assertIs(are_conductances_for(net, demands, pipe, wanted, found), True)
        self.assertLessEqual(digits(found), 1000)
        return found

    def test_each_amount_of_the_stretch_comes_and_no_other(self):
        for name, net, demands in cases():
            for pipe in net:
                sums = plain_sums(net, demands, pipe)
                low, high = sums[0], sums[-1]
                near = {low, high, (low + high) / 2, (3 * low + high) / 4, (low + 99 * high) / 100, low - 1, high + 1,
                        0, low + (high - low) / 10 ** 9, high - (high - low) / 10 ** 9, *sums}
                for wanted in sorted(near):
                    if low < wanted < high or low == wanted == high:
                        self.check(net, demands, pipe, amount(wanted))
                    else:
                        self.assertIsNone(conductances_for(net, demands, pipe, amount(wanted)), (name, pipe, wanted))

    def test_flows_by_straight_curves_are_in_the_stretch(self):
        rng = chance(22)
        for name, net, demands in cases():
            for _ in range(5):
                conductances = some_conductances(rng, net)
                heights = fed_heights(net, demands, conductances)
                for pipe in net:
                    flow = amount(flow_of(net, heights, conductances, pipe))
                    self.assertIn(flow, flow_stretch(net, demands, pipe), (name, pipe))
                    self.check(net, demands, pipe, flow)

    def test_integers(self):
        self.check(NET, DEMANDS, "bc", 1)
        self.check(NET, DEMANDS, "bc", 0)
        self.check(NET, DEMANDS, "bc", -1)
        self.assertIsNone(conductances_for(NET, DEMANDS, "ab", 0))
        self.assertIsNone(conductances_for(NET, DEMANDS, "ab", 2))

    def test_numbers_with_many_digits(self):
        rng = chance(23)
        for _ in range(2):
            demands = {node: Amount(rng.choice((-1, 1)) * rng.randrange(10 ** 19, 10 ** 20), prime)
                       for node, prime in zip("abcdefg", PRIMES)}
            demands["h"] = -Amount.sum_of(*demands.values())
            least = Amount(1, PRIMES[0]) * Amount(1, PRIMES[1])
            for pipe in list(GREAT)[::3]:
                stretch = flow_stretch(GREAT, demands, pipe)
                for wanted in (stretch.low + least, stretch.high - least, Amount(1, PRIMES[2]), Amount(-1, PRIMES[2]), 0):
                    if wanted in stretch:
                        self.check(GREAT, demands, pipe, wanted)

    def test_a_sum_that_is_nearly_0(self):
        # The sum of the three amounts at a, b and c is 1 over the product of three primes, that of the others -1 over it.
        product = PRIMES[0] * PRIMES[1] * PRIMES[2]
        tops = [pow(product // prime, -1, prime) for prime in PRIMES[:3]]
        parts = [Amount(top, prime) for top, prime in zip(tops, PRIMES)]
        whole = Amount.sum_of(*parts) - Amount(1, product)
        self.assertEqual(whole.bottom, 1)
        demands = {"a": parts[0] - whole + 10 ** 9, "b": parts[1] - 10 ** 9, "c": parts[2], "d": -Amount(1, product)}
        net = Net.of(ab=("a", "b"), bc=("b", "c"), cd=("c", "d"), dc=("d", "c"))
        self.check(net, demands, "cd", Amount(1, product) * Amount(99, 100))
        self.assertIsNone(conductances_for(net, demands, "cd", Amount(1, product)))


class AnyValues(unittest.TestCase):
    def test_conductances(self):
        flow = fed_state(NET, DEMANDS, EVEN).flows["ab"]
        self.assertIs(are_conductances_for(NET, DEMANDS, "ab", flow, EVEN), True)
        self.assertIs(are_conductances_for(NET, DEMANDS, "ab", 1, EVEN), True)
        self.assertIs(are_conductances_for(NET, DEMANDS, "bc", 0, dict(list(EVEN.items())[::-1])), True)
        self.assertIs(are_conductances_for(NET, DEMANDS, "ab", 1, {**EVEN, "ab": Amount(7, 3)}), False)
        self.assertIs(are_conductances_for(NET, DEMANDS, "ab", Amount(1, 2), EVEN), False)
        self.assertIs(are_conductances_for(NET, DEMANDS, "ab", 5, EVEN), False)
        less = {name: 1 for name in EVEN if name != "bc"}
        for value in [*STRANGE, {}, [], less, {**EVEN, "z": 1}, {**less, "z": 1}, {**EVEN, "bc": 0}, {**EVEN, "bc": -1},
                      {**EVEN, "bc": True}, {**EVEN, "bc": None}, {**EVEN, "bc": "1"}, {**EVEN, "bc": Amount(0)},
                      {**EVEN, "bc": Amount(-1, 2)}, list(EVEN.items()), list(EVEN), {**less, 1: 1}, 1,
                      {**EVEN, "bc": STRANGE[-2]}, {**EVEN, "bc": [1]}]:
            self.assertIs(are_conductances_for(NET, DEMANDS, "ab", 1, value), False)


if __name__ == "__main__":
    unittest.main()
