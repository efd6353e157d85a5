"""surepipes/several.py: curves by which states fit together, bars, drops, kinds that are shared, needed states."""

import itertools
import unittest
from fractions import Fraction

from plain import GREAT, SMALL, STRANGE, Hostile, amount, balances_of, chance, ends_of, fraction, sign, some_net
from surepipes.amounts import Amount
from surepipes.curves import Curve
from surepipes.errors import Barred, InvalidKinds, InvalidPlace, InvalidStates, UnknownKind
from surepipes.flows import bad_ring
from surepipes.nets import Net
from surepipes.several import (can_share, compare_drops, find_bar, find_curves, fit_curves, fit_together, is_bar, kinds_of,
                               needed_states)

RNG = chance(80)
NETS = {**SMALL, **{f"chance {at}": some_net(RNG, 4, RNG.randrange(4, 8)) for at in range(4)}}
NET = SMALL["bridged"]
PAIR = Net.of(p=("a", "b"), q=("a", "b"))
FIRST, SECOND = {"p": 1, "q": 3}, {"p": 2, "q": 3}
SAME = {"p": "k", "q": "k"}


def line(points, flow):
    """The drop for a flow of a curve with these points, word for word as point 12 tells it."""
    points = sorted([(fraction(x), fraction(y)) for x, y in points] + [(Fraction(0), Fraction(0))])
    points = sorted(set(points))
    if len(points) == 1:
        raise AssertionError("no curve")
    low = max([at for at in range(len(points) - 1) if points[at][0] <= flow], default=0)
    (x, y), (far, top) = points[low], points[low + 1]
    return y + (top - y) * (flow - x) / (far - x)


def table_of(net, kinds):
    return {pipe: pipe if kinds is None else kinds[pipe] for pipe in net}


def plain_fit_curves(net, states, kinds, curves, heights):
    """Point 81, word for word."""
    table = table_of(net, kinds)
    for state, told in zip(states, heights):
        for pipe, (tail, head) in ends_of(net).items():
            drop = fraction(told[tail]) - fraction(told[head])
            if line(curves[table[pipe]].points(), fraction(state[pipe])) != drop:
                return False
    return True


def plain_is_bar(net, states, kinds, value):
    """Point 82, word for word."""
    table = table_of(net, kinds)
    if any(any(balances_of(net, numbers).values()) for numbers in value):
        return False
    sums = []
    for kind in set(table.values()):
        m = {}
        for state, numbers in zip(states, value):
            for pipe in net:
                if table[pipe] == kind:
                    x = fraction(state[pipe])
                    m[x] = m.get(x, 0) + numbers[pipe]
        for x in m:
            if x > 0:
                total = sum(m[y] for y in m if y >= x)
                if total < 0:
                    return False
                sums.append(total)
            elif x < 0:
                total = sum(m[y] for y in m if y <= x)
                if total > 0:
                    return False
                sums.append(total)
    return any(sums)


def some_kinds(rng, net):
    if rng.random() < 0.3:
        return None
    names = "klmn"[:rng.randrange(1, 5)]
    return {pipe: rng.choice(names) for pipe in net}


def some_states(rng, net, kinds, many):
    """States: by one set of curves, by chance, or nearly by one set of curves."""
    table = table_of(net, kinds)
    how = {kind: rng.randrange(4) for kind in set(table.values())}
    told = rng.random()
    found = []
    for _ in range(many):
        if told < 0.35:
            found.append({pipe: rng.randrange(-2, 4) for pipe in net})
            continue
        heights = {node: rng.randrange(-4, 5) for node in net.nodes}
        state = {}
        for pipe, (tail, head) in ends_of(net).items():
            drop = heights[tail] - heights[head]
            state[pipe] = [drop, drop ** 3, Amount(drop, 3), drop * (2 if drop > 0 else 1)][how[table[pipe]]]
        if told > 0.7:
            state[rng.choice(list(net))] = state[rng.choice(list(net))]
        found.append(state)
    return found


class Together(unittest.TestCase):
    def check(self, net, states, kinds):
        """Either right curves or a right bar: as never both can be, this tells that the answer is right."""
        told = (net, states, kinds)
        found, bar = find_curves(net, states, kinds), find_bar(net, states, kinds)
        self.assertEqual(found is None, bar is not None, told)
        self.assertIs(fit_together(net, states, kinds), found is not None)
        if found is not None:
            self.assertTrue(type(found) is tuple and len(found) == 2)
            curves, heights = found
            self.assertEqual(list(curves), sorted(set(table_of(net, kinds).values())))
            self.assertTrue(all(type(curve) is Curve for curve in curves.values()))
            self.assertTrue(type(heights) is list and len(heights) == len(states))
            for table in heights:
                self.assertEqual(list(table), list(net.nodes))
                self.assertTrue(all(type(height) is Amount for height in table.values()))
            self.assertTrue(plain_fit_curves(net, states, kinds, curves, heights), told)
            self.assertIs(fit_curves(net, states, kinds, found), True, told)
            return True
        self.assertTrue(type(bar) is list and len(bar) == len(states))
        for numbers in bar:
            self.assertEqual(list(numbers), list(net))
            self.assertTrue(all(type(number) is int for number in numbers.values()))
        self.assertTrue(plain_is_bar(net, states, kinds, bar), (told, bar))
        self.assertIs(is_bar(net, states, kinds, bar), True)
        return False

    def test_curves_or_a_bar(self):
        rng = chance(81)
        seen = {True: 0, False: 0}
        for net in NETS.values():
            for _ in range(12):
                kinds = some_kinds(rng, net)
                seen[self.check(net, some_states(rng, net, kinds, rng.randrange(1, 5)), kinds)] += 1
        self.assertGreater(min(seen.values()), 40)

    def test_eight_nodes_sixteen_pipes_four_states(self):
        rng = chance(82)
        seen = set()
        for kinds in (None, dict.fromkeys(GREAT, "k"), {pipe: rng.choice("kl") for pipe in GREAT}):
            for _ in range(4):
                seen.add(self.check(GREAT, some_states(rng, GREAT, kinds, 4), kinds))
        self.assertEqual(seen, {True, False})

    def test_sixteen_pipes_between_two_nodes(self):
        net = Net({name: ("a", "b") if at % 3 else ("b", "a") for at, name in enumerate("abcdefghijklmnop")})
        rng = chance(83)
        states = []
        for drop in (5, -3, 40, 7):
            states.append({name: (drop if at % 3 else -drop) * (at + 1) ** 2 for at, name in enumerate(net)})
        self.assertTrue(self.check(net, states, None))
        states[3]["p"] = states[0]["p"]
        self.assertFalse(self.check(net, states, None))
        kinds = {name: rng.choice("klm") for name in net}
        self.assertFalse(self.check(net, states, kinds))

    def test_one_state_fits_if_it_has_no_bad_ring(self):
        rng = chance(84)
        for net in NETS.values():
            for _ in range(6):
                flows = {pipe: rng.randrange(-1, 2) for pipe in net}
                self.assertIs(fit_together(net, [flows]), bad_ring(net, flows) is None)

    def test_great_and_nearly_equal_flows(self):
        great = 10 ** 20 - 1
        near = great - 1
        tiny, tinier = Amount(1, great - 1), Amount(1, great)
        for low, high in ((near, great), (tinier, tiny), (Amount(near, great), Amount(great, near))):
            self.assertTrue(self.check(PAIR, [{"p": low, "q": low}, {"p": high, "q": high}], SAME))
            self.assertFalse(self.check(PAIR, [{"p": low, "q": high}], SAME))
            self.assertTrue(self.check(PAIR, [{"p": low, "q": high}], None))
            self.assertFalse(self.check(PAIR, [{"p": low, "q": high}, {"p": high, "q": high}], None))
            self.assertFalse(self.check(PAIR, [{"p": -low, "q": -high}, {"p": -high, "q": -high}], None))
            self.assertTrue(self.check(PAIR, [{"p": low, "q": low}, {"p": -high, "q": -high}], None))
        rng = chance(85)
        amounts = [great, near, -great, -near, tiny, tinier, -tiny, 0]
        for _ in range(8):
            self.check(NET, [{pipe: rng.choice(amounts) for pipe in NET} for _ in range(3)], some_kinds(rng, NET))

    def test_flows_that_are_0(self):
        for net in NETS.values():
            for kinds in (None, dict.fromkeys(net, "k")):
                states = [dict.fromkeys(net, 0)] * 2
                self.assertTrue(self.check(net, states, kinds))
                self.assertIsNone(find_bar(net, states, kinds))
        self.assertFalse(self.check(PAIR, [{"p": 0, "q": 1}], None))
        self.assertFalse(self.check(PAIR, [{"p": 1, "q": -1}], None))
        self.assertTrue(self.check(PAIR, [{"p": 0, "q": Amount(0, 3)}], None))

    def test_a_net_without_a_ring(self):
        net = SMALL["path"]
        self.assertTrue(self.check(net, [{"p": 1, "q": -2, "r": 3}, {"p": 1, "q": 0, "r": -3}], None))
        self.assertTrue(self.check(net, [{"p": 1, "q": -2, "r": 3}], dict.fromkeys(net, "k")))

    def test_told_values(self):
        self.assertEqual([fit_together(PAIR, [FIRST]), fit_together(PAIR, [FIRST, SECOND]),
                          fit_together(PAIR, [FIRST], SAME)], [True, False, False])
        # A curve need not be the same for flows in both ways.
        self.assertTrue(self.check(PAIR, [{"p": 1, "q": 3}, {"p": -2, "q": -3}], None))
        self.assertTrue(self.check(PAIR, [{"p": 1, "q": 2}, {"p": 2, "q": 3}], None))
        turned = Net.of(p=("a", "b"), q=("b", "a"))
        self.assertTrue(self.check(turned, [{"p": 1, "q": -3}], SAME))
        self.assertFalse(self.check(turned, [{"p": 1, "q": 3}], SAME))

    def test_by_position_and_by_name(self):
        self.assertEqual(find_bar(PAIR, [FIRST, SECOND]), find_bar(kinds=None, states=(FIRST, SECOND), net=PAIR))
        self.assertEqual(find_curves(PAIR, [FIRST]), find_curves(kinds={"p": "p", "q": "q"}, states=[FIRST], net=PAIR))
        self.assertIs(fit_together(kinds=SAME, states=[FIRST], net=PAIR), False)

    def test_what_is_returned_is_new(self):
        states, kinds = [FIRST], {"q": "l", "p": "k"}
        curves, heights = find_curves(PAIR, states, kinds)
        heights[0].clear()
        curves.clear()
        heights.clear()
        self.assertEqual(len(find_curves(PAIR, states, kinds)[1][0]), 2)
        find_bar(PAIR, [FIRST, SECOND])[0].clear()
        self.assertEqual(len(find_bar(PAIR, [FIRST, SECOND])[0]), 2)
        kinds_of(PAIR, kinds)["k"].append("z")
        self.assertEqual(list(kinds_of(PAIR, kinds).items()), [("k", ["p"]), ("l", ["q"])])
        self.assertEqual((states, kinds, FIRST), ([{"p": 1, "q": 3}], {"q": "l", "p": "k"}, {"p": 1, "q": 3}))


class Certificates(unittest.TestCase):
    def test_bars_of_all_small_numbers(self):
        rng = chance(86)
        seen = set()
        for net in (PAIR, SMALL["two pipes"], SMALL["triangle"], SMALL["one pipe"]):
            numbers = [dict(zip(net, values)) for values in itertools.product((-1, 0, 1), repeat=len(net))]
            for many in (1, 2):
                for _ in range(3):
                    kinds = some_kinds(rng, net)
                    states = some_states(rng, net, kinds, many)
                    for value in itertools.product(numbers, repeat=many):
                        right = plain_is_bar(net, states, kinds, value)
                        self.assertIs(is_bar(net, states, kinds, list(value)), right, (net, states, kinds, value))
                        seen.add(right)
        self.assertEqual(seen, {True, False})

    def test_is_bar_of_any_value(self):
        right = [{"p": -1, "q": 1}, {"p": 1, "q": -1}]
        self.assertIs(is_bar(PAIR, [FIRST, SECOND], None, right), True)
        self.assertIs(is_bar(PAIR, [FIRST, SECOND], None, tuple(right)), True)
        self.assertIs(is_bar(value=right, kinds=None, states=[FIRST, SECOND], net=PAIR), True)
        self.assertIs(is_bar(PAIR, [FIRST, SECOND], None, [{"q": 7, "p": -7}, {"p": 7, "q": -7}]), True)
        for value in [*STRANGE, [], right[:1], [*right, right[0]], [right[0], None], [None, right[1]], right[0],
                      [right[0], {"p": 1}], [right[0], {"p": 1, "q": -1, "r": 0}], [right[0], {"p": 1, "r": -1}],
                      [right[0], {"p": Amount(1), "q": Amount(-1)}], [right[0], {"p": True, "q": -1}],
                      [{"p": 0, "q": 0}, {"p": 0, "q": False}], [{"p": 0, "q": 0}] * 2, [{"p": 1, "q": 1}, right[1]],
                      [right[1], right[0]], [right[0], Hostile()], [right[0], {"p": Hostile(), "q": 1}],
                      {0: right[0], 1: right[1]}, iter(right)]:
            self.assertIs(is_bar(PAIR, [FIRST, SECOND], None, value), False)
        self.assertIs(is_bar(PAIR, [FIRST, FIRST], None, right), False)

    def test_fit_curves_of_any_value(self):
        curves, heights = {"p": Curve([(1, 6)]), "q": Curve.straight(Amount(1, 2))}, [{"a": 7, "b": Amount(1)}]
        self.assertIs(fit_curves(PAIR, [FIRST], None, (curves, heights)), True)
        self.assertIs(fit_curves(PAIR, [FIRST], None, (curves, tuple(heights))), True)
        self.assertIs(fit_curves(value=(curves, heights), kinds=None, states=[FIRST], net=PAIR), True)
        self.assertIs(fit_curves(PAIR, [FIRST], SAME, (curves, heights)), False)
        self.assertIs(fit_curves(PAIR, [FIRST], {"p": "q", "q": "p"}, (curves, heights)), False)
        wrong = [*STRANGE, (), (curves,), (curves, heights, None), [curves, heights], (heights, curves), (curves, heights * 2),
                 (curves, []), (curves, heights[0]), (curves, [{"a": 7}]), (curves, [{"a": 7, "b": 1, "c": 0}]),
                 (curves, [{"a": 7, "c": 1}]), (curves, [{"a": 7, "b": True}]), (curves, [{"a": 7, "b": "1"}]),
                 (curves, [{"a": 7, "b": 2}]), (curves, [{"a": 7, "b": 1}, None]), (curves, [Hostile()]),
                 (curves, [{"a": 7, "b": Hostile()}]), (Hostile(), heights), (None, heights), (curves, None)]
        for table in ({"p": Curve([(1, 6)])}, {**curves, "r": Curve.straight(1)}, {**curves, "q": None}, {**curves, "q": 2},
                      {**curves, "q": Curve.straight(1)}, {"p": Curve([(1, 6)]), "k": Curve.straight(1)}, list(curves),
                      {**curves, "q": Hostile()}, list(curves.values())):
            wrong.append((table, heights))
        for value in wrong:
            self.assertIs(fit_curves(PAIR, [FIRST], None, value), False)

    def test_curves_that_are_changed(self):
        rng = chance(87)
        for net in NETS.values():
            kinds = some_kinds(rng, net)
            states = some_states(rng, net, kinds, 2)
            found = find_curves(net, states, kinds)
            if found is None:
                continue
            curves, heights = found
            node = rng.choice(net.nodes)
            moved = [{node: height + 3 for node, height in heights[0].items()}, heights[1]]
            self.assertIs(fit_curves(net, states, kinds, (curves, moved)), True)
            other = [heights[0], {**heights[1], node: heights[1][node] + 1}]
            self.assertIs(fit_curves(net, states, kinds, (curves, other)), False)
            kind = rng.choice(list(curves))
            value = ({**curves, kind: curves[kind] + Curve.straight(1)}, heights)
            self.assertIs(fit_curves(net, states, kinds, value), plain_fit_curves(net, states, kinds, *value))


def plain_growths(net, states, kinds):
    """Curves whose drops grow by 1, 2, 3 or 7 from one flow to the next: dicts from (kind, flow) to the drop.

    There are none if there would be too many.
    """
    table = table_of(net, kinds)
    flows = {}
    for state in states:
        for pipe in net:
            flows.setdefault(table[pipe], set()).add(fraction(state[pipe]))
    steps = [(kind, x) for kind in flows for x in sorted(flows[kind]) if x != 0]
    for sizes in itertools.product((1, 2, 3, 7), repeat=len(steps)) if len(steps) < 7 else ():
        grown = dict(zip(steps, sizes))
        yield {(kind, x): sum(size * sign(y) for (other, y), size in grown.items()
                              if other == kind and sign(y) == sign(x) and abs(y) <= abs(x))
               for kind in flows for x in flows[kind]}


def plain_heights(net, state, kinds, drops):
    """The heights in a state, or None if the drops do not add up."""
    table = table_of(net, kinds)
    heights = {net.nodes[0]: 0}
    while len(heights) < len(net.nodes):
        for pipe, (tail, head) in ends_of(net).items():
            drop = drops[table[pipe], fraction(state[pipe])]
            if tail in heights:
                heights.setdefault(head, heights[tail] - drop)
            elif head in heights:
                heights[tail] = heights[head] + drop
    right = all(heights[tail] - heights[head] == drops[table[pipe], fraction(state[pipe])]
                for pipe, (tail, head) in ends_of(net).items())
    return heights if right else None


class Drops(unittest.TestCase):
    WORDS = {1: "above", 0: "level", -1: "below"}

    def plain(self, net, states, kinds):
        """All heights in all states by all small curves."""
        found = []
        for drops in plain_growths(net, states, kinds):
            heights = [plain_heights(net, state, kinds, drops) for state in states]
            if None not in heights:
                found.append(heights)
        return found

    def test_against_all_small_curves(self):
        rng = chance(88)
        seen = {}
        for net in (PAIR, SMALL["triangle"], SMALL["path"], SMALL["square"], SMALL["star"], SMALL["bridged"]):
            for _ in range(20):
                kinds = rng.choice([None, {pipe: rng.choice("kl") for pipe in net}])
                states = [{pipe: rng.choice([-1, 0, 1, 1, 2]) for pipe in net} for _ in range(rng.randrange(1, 3))]
                every = self.plain(net, states, kinds)
                if not every:
                    continue
                places = [(at, u, v) for at in range(len(states)) for u in net.nodes for v in net.nodes]
                for first, second in zip(rng.choices(places, k=6), rng.choices(places, k=6)):
                    (i, u, v), (j, w, z) = first, second
                    signs = {sign(told[i][u] - told[i][v] - told[j][w] + told[j][z]) for told in every}
                    wanted = "open" if len(signs) > 1 else self.WORDS[min(signs)]
                    found = compare_drops(net, states, first, second, kinds)
                    self.assertEqual(found, wanted, (net, states, kinds, first, second))
                    seen[found] = seen.get(found, 0) + 1
        self.assertEqual(set(seen), {"above", "level", "below", "open"})
        self.assertGreater(min(seen.values()), 5)

    def test_found_curves_are_as_the_answers_tell(self):
        rng = chance(89)
        for net in [*NETS.values(), GREAT]:
            for _ in range(2):
                kinds = some_kinds(rng, net)
                states = some_states(rng, net, kinds, 2)
                found = find_curves(net, states, kinds)
                if found is None:
                    continue
                for _ in range(5):
                    u, v, w, z = [rng.choice(net.nodes) for _ in range(4)]
                    drop = found[1][0][u] - found[1][0][v] - found[1][1][w] + found[1][1][z]
                    told = compare_drops(net, states, (0, u, v), (1, w, z), kinds)
                    self.assertIn(told, ("open", self.WORDS[drop.sign]))
                    other = compare_drops(net, states, (1, w, z), (0, u, v), kinds)
                    self.assertEqual(other, {"above": "below", "below": "above"}.get(told, told))

    def test_told_values(self):
        self.assertEqual(compare_drops(PAIR, [FIRST], (0, "a", "b"), (0, "b", "a")), "above")
        self.assertEqual(compare_drops(PAIR, [FIRST], (0, "a", "a"), (0, "b", "b")), "level")
        self.assertEqual(compare_drops(PAIR, [FIRST], (0, "a", "a"), (0, "a", "b")), "below")
        states = [{"p": 1, "q": 3}, {"p": 2, "q": 4}]
        self.assertEqual(compare_drops(PAIR, states, (0, "a", "b"), (1, "a", "b")), "below")
        self.assertEqual(compare_drops(kinds=None, second=(0, "a", "b"), first=(1, "a", "b"), states=states, net=PAIR), "above")
        path = SMALL["path"]
        flows = {"r": 1, "p": -2, "q": 2}
        self.assertEqual(compare_drops(path, [flows], (0, "a", "b"), (0, "b", "c")), "open")
        self.assertEqual(compare_drops(path, [flows], (0, "a", "b"), (0, "b", "c"), {"r": "k", "p": "l", "q": "k"}), "open")
        shared = dict.fromkeys(path, "k")
        self.assertEqual(compare_drops(path, [flows], (0, "a", "b"), (0, "c", "d"), shared), "below")
        self.assertEqual(compare_drops(path, [{"r": 1, "p": 1, "q": 1}], (0, "a", "b"), (0, "c", "d"), shared), "level")
        # A curve with the drop d for 1 need not have -d for -1.
        self.assertEqual(compare_drops(path, [flows], (0, "b", "c"), (0, "c", "d"), shared), "open")

    def test_barred(self):
        for states in ([FIRST, SECOND], [{"p": 1, "q": 0}]):
            with self.assertRaises(Barred):
                compare_drops(PAIR, states, (0, "a", "b"), (0, "a", "b"))

    def test_wrong_places(self):
        wrong = [*STRANGE, (), (0, "a"), (0, "a", "b", "a"), [0, "a", "b"], (2, "a", "b"), (-1, "a", "b"), (True, "a", "b"),
                 (False, "a", "b"), (Amount(0), "a", "b"), ("0", "a", "b"), (None, "a", "b"), (0, "c", "b"), (0, "a", "c"),
                 (0, 1, "b"), (0, "a", None), (0, ["a"], "b"), (Hostile(), "a", "b"), (0, Hostile(), "b"), "0ab"]
        for value in wrong:
            for other in (None, (0, "a", "b")):
                for kinds in (None, {}):
                    with self.assertRaises(InvalidPlace) as caught:
                        compare_drops(PAIR, [FIRST, SECOND], value, other, kinds)
                    self.assertIs(caught.exception.value, value)
            with self.assertRaises(InvalidPlace) as caught:
                compare_drops(PAIR, [FIRST, SECOND], (1, "a", "b"), value)
            self.assertIs(caught.exception.value, value)


class Sharing(unittest.TestCase):
    def test_kinds_of(self):
        self.assertEqual(list(kinds_of(NET, None).items()), [(pipe, [pipe]) for pipe in NET])
        kinds = {"cd": "wide", "ab": "narrow", "bc": "wide", "bd": "ab", "ac": "narrow"}
        self.assertEqual(list(kinds_of(kinds=kinds, net=NET).items()),
                         [("ab", ["bd"]), ("narrow", ["ab", "ac"]), ("wide", ["bc", "cd"])])
        self.assertEqual(list(kinds)[0], "cd")

    def test_can_share(self):
        rng = chance(90)
        seen = set()
        for net in NETS.values():
            for _ in range(4):
                kinds = some_kinds(rng, net)
                states = some_states(rng, net, kinds, rng.randrange(1, 4))
                names = list(kinds_of(net, kinds))
                one, other = rng.choice(names), rng.choice(names)
                shared = {pipe: "z" if kind in (one, other) else kind for pipe, kind in table_of(net, kinds).items()}
                found = can_share(net, states, one, other, kinds)
                self.assertIs(found, fit_together(net, states, shared), (net, states, one, other, kinds))
                self.assertIs(can_share(net, states, other, one, kinds), found)
                seen.add(found)
        self.assertEqual(seen, {True, False})
        self.assertIs(can_share(PAIR, [FIRST], "p", "q"), False)
        self.assertIs(can_share(PAIR, [{"p": 1, "q": 1}], other="q", one="p", kinds=None), True)
        self.assertIs(can_share(PAIR, [FIRST], "p", "p"), True)
        self.assertIs(can_share(PAIR, [FIRST, SECOND], "p", "p"), False)

    def test_unknown_kinds(self):
        for value in [*STRANGE, "a", "r", 1, ["p"], ("p",), {}]:
            for other in ("p", "zz", None):
                with self.assertRaises(UnknownKind) as caught:
                    can_share(PAIR, [FIRST], value, other)
                self.assertIs(caught.exception.value, value)
            with self.assertRaises(UnknownKind) as caught:
                can_share(PAIR, [FIRST], "k", value, SAME)
            self.assertIs(caught.exception.value, value)
        with self.assertRaises(UnknownKind):
            can_share(PAIR, [FIRST], "p", "q", SAME)
        with self.assertRaises(InvalidKinds):
            can_share(PAIR, [FIRST], None, None, {})

    def test_needed_states(self):
        rng = chance(91)
        lengths = set()
        for net in NETS.values():
            for _ in range(8):
                kinds = some_kinds(rng, net)
                states = some_states(rng, net, kinds, rng.randrange(1, 5))
                found = needed_states(net, states, kinds)
                self.assertEqual(found is None, fit_together(net, states, kinds), (net, states, kinds))
                if found is None:
                    continue
                self.assertEqual(found, sorted(set(found)))
                self.assertFalse(fit_together(net, [states[at] for at in found], kinds))
                for gone in found:
                    left = [states[at] for at in found if at != gone]
                    self.assertTrue(not left or fit_together(net, left, kinds))
                lengths.add(len(found))
        self.assertTrue({1, 2} <= lengths)
        self.assertEqual(needed_states(PAIR, [{"p": 5, "q": 9}, FIRST, SECOND]), [1, 2])
        self.assertEqual(needed_states(kinds=SAME, states=[{"p": 1, "q": 1}, FIRST], net=PAIR), [1])
        three = [{"p": 1, "q": 1}, {"p": 1, "q": 1}, {"p": 2, "q": 2}]
        self.assertIsNone(needed_states(PAIR, three, SAME))

    def test_three_and_four_states_of_which_all_are_needed(self):
        ring = Net.of(p=("a", "b"), q=("b", "c"), r=("a", "d"), s=("d", "c"))
        for rows, kinds, wanted in (([(5, 2, 3, 3), (2, 1, 1, 2), (1, 5, 3, 1), (2, 3, 5, 2)], "lklk", [1, 2, 3]),
                                    ([(2, 5, 2, 4), (1, 4, 2, 2), (2, 2, 1, 4), (3, 5, 4, 2)], "lllk", [0, 1, 2, 3])):
            states, table = [dict(zip(ring, row)) for row in rows], dict(zip(ring, kinds))
            self.assertEqual(needed_states(ring, states, table), wanted)
            for gone in wanted:
                left = [states[at] for at in wanted if at != gone]
                self.assertIsNone(find_bar(ring, left, table))
            self.assertTrue(plain_is_bar(ring, states, table, find_bar(ring, states, table)))


class Errors(unittest.TestCase):
    FUNCTIONS = (find_curves, find_bar, fit_together, needed_states)

    def calls(self, states, kinds):
        for function in self.FUNCTIONS:
            yield lambda: function(PAIR, states, kinds)
        yield lambda: fit_curves(PAIR, states, kinds, None)
        yield lambda: is_bar(PAIR, states, kinds, None)
        yield lambda: can_share(PAIR, states, "zz", "zz", kinds)
        yield lambda: compare_drops(PAIR, states, (0, "a", "b"), (0, "a", "b"), kinds)

    def test_states(self):
        rows = [(value, None) for value in [*STRANGE, [], (), FIRST, [FIRST] * 5, {0: FIRST}, iter([FIRST]), 1, "p"]]
        for wrong in [*STRANGE, {}, [], {"p": 1}, {"p": 1, "q": 2, "r": 3}, {"p": 1, "r": 2}, {"p": 1, "q": None}, 1,
                      {"p": True, "q": 1}, {"p": "1", "q": 1}, list(FIRST.items()), {"p": Hostile(), "q": 1}]:
            rows += [([wrong], 0), ([FIRST, wrong, None], 1), ((FIRST, SECOND, FIRST, wrong), 3)]
        for value, position in rows:
            for call in self.calls(value, {}):
                with self.assertRaises(InvalidStates) as caught:
                    call()
                self.assertEqual(caught.exception.position, position)
                self.assertIs(type(caught.exception.position), type(position))

    def test_places_are_looked_at_behind_states(self):
        with self.assertRaises(InvalidStates):
            compare_drops(PAIR, [], None, None, {})

    def test_kinds(self):
        rows = [(value, None) for value in [*STRANGE[1:], {}, [], {"p": "k"}, {"p": "k", "q": "k", "r": "k"}, 1,
                                            {"p": "k", "r": "k"}, ["k", "k"], [("p", "k"), ("q", "k")]]]
        for wrong in [*STRANGE, 1, "K", "a1", "longnames", ["k"], ("k",), {}]:
            rows += [({"p": "k", "q": wrong}, "q"), ({"q": wrong, "p": None}, "q"), ({"p": wrong, "q": wrong}, "p")]
        for value, pipe in rows:
            for call in [*self.calls([FIRST], value), lambda: kinds_of(PAIR, value)]:
                with self.assertRaises(InvalidKinds) as caught:
                    call()
                self.assertEqual(caught.exception.pipe, pipe)

    def test_a_state_is_not_changed(self):
        state = {"q": 3, "p": Amount(1, 2)}
        kinds = {"q": "l", "p": "k"}
        states = [state]
        for call in self.calls(states, kinds):
            try:
                call()
            except UnknownKind:
                pass
        self.assertEqual((list(state.items()), list(kinds), states), ([("q", 3), ("p", Amount(1, 2))], ["q", "p"], [state]))

    def test_drops_of_amounts(self):
        self.assertTrue(fit_together(PAIR, [{"p": amount(Fraction(1, 3)), "q": Amount(2, 6)}], SAME))


if __name__ == "__main__":
    unittest.main()
