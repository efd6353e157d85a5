"""Nets for the tests, and plain searches over all cases, by which the answers of the package are checked.

Nothing here uses the package but to make nets and amounts: all is reckoned anew, with Python's own fractions.
"""

import itertools
import random
from fractions import Fraction

from surepipes.amounts import Amount
from surepipes.nets import Net


class Hostile:
    """Says that it is equal to everything, and cannot be shown or hashed."""

    __hash__ = None

    def __eq__(self, other):
        return True

    def __repr__(self):
        raise AssertionError("not to be shown")


# Values of all kinds that are no NAMES, no amounts, no lists, no dicts with an entry.
STRANGE = [None, True, False, "", "a b", "A", b"a", {"a"}, object(), Hostile(), int]

BRIDGED = {"ab": ("a", "b"), "ac": ("a", "c"), "bc": ("b", "c"), "bd": ("b", "d"), "cd": ("c", "d")}

PIPES = {
    "one pipe": {"p": ("a", "b")},
    "one pipe back": {"p": ("b", "a")},
    "two pipes": {"p": ("a", "b"), "q": ("b", "a")},
    "three pipes": {"p": ("a", "b"), "q": ("a", "b"), "r": ("b", "a")},
    "path": {"r": ("a", "b"), "p": ("c", "b"), "q": ("c", "d")},
    "star": {"x": ("c", "a"), "y": ("b", "c"), "z": ("c", "d")},
    "triangle": {"ab": ("a", "b"), "bc": ("b", "c"), "ca": ("c", "a")},
    "bridged": BRIDGED,
    "square": {"s": ("b", "a"), "t": ("b", "d"), "u": ("c", "d"), "v": ("a", "c")},
    "all of four": {**BRIDGED, "da": ("d", "a")},
    "triangle with a tail": {"ab": ("a", "b"), "bc": ("c", "b"), "ca": ("c", "a"), "cd": ("d", "c"),
                             "de": ("d", "e"), "ed": ("e", "d")},
    "two triangles": {"ab": ("a", "b"), "bm": ("b", "m"), "am": ("a", "m"), "cm": ("c", "m"), "dm": ("d", "m"),
                      "cd": ("c", "d")},
    "five": {"ab": ("a", "b"), "bc": ("b", "c"), "cd": ("c", "d"), "de": ("d", "e"), "ea": ("e", "a"),
             "ac": ("a", "c"), "twice": ("c", "a")},
    "long names": {"pqrstuvw": ("nodename", "b"), "p": ("b", "zzzzzzzz"), "aa": ("nodename", "zzzzzzzz"),
                   "if": ("a", "b")},
}

SMALL = {name: Net(pipes) for name, pipes in PIPES.items()}

# Eight nodes and sixteen pipes, two of them between the same nodes.
GREAT = Net({"ab": ("a", "b"), "ba": ("b", "a"), "bc": ("b", "c"), "cd": ("c", "d"), "da": ("d", "a"),
             "ef": ("e", "f"), "fg": ("f", "g"), "gh": ("g", "h"), "he": ("h", "e"), "ae": ("a", "e"),
             "fb": ("f", "b"), "cg": ("c", "g"), "hd": ("h", "d"), "ac": ("a", "c"), "fh": ("f", "h"),
             "bh": ("b", "h")})


def ends_of(net):
    """The pipes as a plain dict."""
    return {name: net[name] for name in net}


def some_net(rng, nodes, pipes):
    """A connected net with so many nodes and pipes, made by chance."""
    names = "abcdefgh"[:nodes]
    ends = [(names[rng.randrange(at)], names[at]) for at in range(1, nodes)]
    ends += [tuple(rng.sample(names, 2)) for _ in range(pipes - len(ends))]
    ends = [rng.choice([pair, pair[::-1]]) for pair in ends]
    rng.shuffle(ends)
    return Net({"pqrstuvwxyzabcde"[at]: pair for at, pair in enumerate(ends)})


def some_amount(rng):
    return rng.choice([rng.randrange(-3, 4), Amount(rng.randrange(-7, 8), rng.randrange(1, 5))])


def some_demands(rng, net):
    """Demands made by chance, many of them 0, and often with sums that are 0."""
    wild = rng.random() < 0.5
    found = {node: (some_amount(rng) if wild else rng.choice([-1, 0, 0, 1])) for node in net.nodes}
    total = Amount.sum_of(*found.values())
    last = rng.choice(net.nodes)
    found[last] = found[last] - total
    return found


def some_poles(rng, net):
    nodes = rng.sample(net.nodes, rng.randrange(1, len(net.nodes) + 1))
    return {node: some_amount(rng) for node in nodes}


def some_conductances(rng, net):
    return {name: rng.choice([1, 1, 2, 5, 100, Amount(1, 100), Amount(rng.randrange(1, 9), rng.randrange(1, 9))])
            for name in net}


def fraction(value):
    return Fraction(value.top, value.bottom) if isinstance(value, Amount) else Fraction(value)


def fractions(table):
    return {key: fraction(value) for key, value in table.items()}


def amount(value):
    value = Fraction(value)
    return Amount(value.numerator, value.denominator)


def sign(value):
    return (value > 0) - (value < 0)


def connected(ends, nodes):
    """Whether pipes, a list of pairs of nodes, connect nodes; only those between these nodes count."""
    nodes = set(nodes)
    if not nodes:
        return False
    reached = {min(nodes)}
    while True:
        more = {far for pair in ends if set(pair) <= nodes and set(pair) & reached for far in pair} - reached
        if not more:
            return reached == nodes
        reached |= more


def all_cuts(net, u, v):
    """The cuts of (u, v), out of all sets of nodes."""
    ends = list(ends_of(net).values())
    found = []
    for many in range(len(net.nodes) + 1):
        for chosen in itertools.combinations(net.nodes, many):
            rest = [node for node in net.nodes if node not in chosen]
            if u in chosen and v not in chosen and connected(ends, chosen) and connected(ends, rest):
                found.append(chosen)
    return found


def all_tuples(net):
    """All tuples of different nodes, with at least one."""
    for many in range(1, len(net.nodes) + 1):
        yield from itertools.permutations(net.nodes, many)


def all_ways(net, u, v, avoid=()):
    """The ways from u to v, out of all tuples of nodes."""
    joined = {frozenset(pair) for pair in ends_of(net).values()}
    return sorted(way for way in all_tuples(net)
                  if way[0] == u and way[-1] == v and not set(way[1:-1]) & set(avoid)
                  and all(frozenset(pair) in joined for pair in zip(way, way[1:])))


def all_rings(net):
    """All rings, beginning at each of their nodes, out of all tuples of nodes."""
    for nodes in all_tuples(net):
        if len(nodes) < 2:
            continue
        steps = []
        for start, end in zip(nodes, nodes[1:] + nodes[:1]):
            steps.append([(name, 1) for name, pair in ends_of(net).items() if pair == (start, end)]
                         + [(name, -1) for name, pair in ends_of(net).items() if pair == (end, start)])
        for ring in itertools.product(*steps):
            if len({name for name, _ in ring}) == len(ring):
                yield list(ring)


def solve(rows):
    """The solution of linear equations, each of which ends with its right side."""
    rows = [list(map(Fraction, row)) for row in rows]
    for at in range(len(rows)):
        pivot = next(row for row in range(at, len(rows)) if rows[row][at] != 0)
        rows[at], rows[pivot] = rows[pivot], rows[at]
        rows[at] = [value / rows[at][at] for value in rows[at]]
        for other in range(len(rows)):
            if other != at:
                rows[other] = [mine - rows[other][at] * his for mine, his in zip(rows[other], rows[at])]
    return [row[-1] for row in rows]


def heights_of(net, conductances, fixed, inputs):
    """The heights by straight curves: one equation for each node."""
    nodes = list(net.nodes)
    rows = []
    for node in nodes:
        row = dict.fromkeys(nodes, Fraction(0))
        if node in fixed:
            row[node] = Fraction(1)
            rows.append([*row.values(), fraction(fixed[node])])
            continue
        for name, (tail, head) in ends_of(net).items():
            if node in (tail, head):
                row[node] += fraction(conductances[name])
                row[head if node == tail else tail] -= fraction(conductances[name])
        rows.append([*row.values(), fraction(inputs.get(node, 0))])
    return dict(zip(nodes, solve(rows)))


def fed_heights(net, demands, conductances):
    return heights_of(net, conductances, {net.nodes[0]: 0}, demands)


def held_heights(net, poles, conductances):
    return heights_of(net, conductances, poles, {})


def flow_of(net, heights, conductances, name):
    tail, head = net[name]
    return (heights[tail] - heights[head]) * fraction(conductances[name])


def balances_of(net, flows):
    found = dict.fromkeys(net.nodes, Fraction(0))
    for name, (tail, head) in ends_of(net).items():
        found[tail] += fraction(flows[name])
        found[head] -= fraction(flows[name])
    return found


def chance(seed):
    return random.Random(seed)


def all_orders(nodes):
    """The levels of all orders of nodes, each level a sorted tuple."""
    if not nodes:
        yield []
    for many in range(1, len(nodes) + 1):
        for top in itertools.combinations(sorted(nodes), many):
            for rest in all_orders([node for node in nodes if node not in top]):
                yield [top, *rest]


def some_levels(rng, nodes):
    """The levels of an order, made by chance."""
    places = {node: rng.randrange(rng.choice([2, len(nodes), 2 * len(nodes)])) for node in nodes}
    return levels_of(places)[::-1]


def levels_of(heights):
    """The levels in which these heights are, from the top down."""
    return [tuple(sorted(node for node in heights if heights[node] == height))
            for height in sorted(set(heights.values()), reverse=True)]


def places_of(levels):
    return {node: place for place, level in enumerate(levels) for node in level}


def all_sets(nodes):
    """All sorted tuples of nodes."""
    for many in range(len(nodes) + 1):
        yield from itertools.combinations(sorted(nodes), many)


def pipes_down(net, levels):
    """The pipes that lead down, from (higher node, lower node) to their number."""
    places = places_of(levels)
    found = [(tail, head) for tail, head in ends_of(net).values() if places[tail] < places[head]]
    return found + [(head, tail) for tail, head in ends_of(net).values() if places[head] < places[tail]]


def held_order_fault(net, poles, levels):
    """What is wrong about an order for poles, as point 63 tells it."""
    places = places_of(levels)
    for p, q in itertools.combinations(sorted(poles), 2):
        if sign(fraction(poles[p]) - fraction(poles[q])) != sign(places[q] - places[p]):
            return ("pole", p, q)
    for node in net.nodes:
        if node not in poles:
            near = [places[far] for pair in ends_of(net).values() if node in pair for far in pair if far != node]
            both = any(place < places[node] for place in near) and any(place > places[node] for place in near)
            if not both and not all(place == places[node] for place in near):
                return ("node", node)
    return None


def is_reading_true(levels, reading):
    u, word, v = reading
    above = places_of(levels)[v] - places_of(levels)[u]
    return {">": above > 0, "=": above == 0, ">=": above >= 0}[word]


def some_readings(rng, net, many):
    """Readings for different pairs of nodes, made by chance."""
    found = {}
    for _ in range(many):
        found[rng.choice(net.nodes), rng.choice(net.nodes)] = rng.choice([">", "=", ">=", ">="])
    return [(u, word, v) for (u, v), word in found.items()]


def answer_of(above, below):
    return {(True, True): "open", (True, False): "above", (False, True): "below", (False, False): "level"}[above, below]


def plain_fed(net, demands, u, v):
    """The answer out of all sets of nodes."""
    sums = [sum(fraction(demands[node]) for node in cut) for cut in all_cuts(net, u, v)]
    return answer_of(any(value > 0 for value in sums), any(value < 0 for value in sums))


def plain_lower_ways(net, poles, u, v):
    """All lower ways for (u, v), out of all pairs of ways."""
    ones = [way for pole in poles for way in all_ways(net, u, pole) if not set(way[:-1]) & set(poles)]
    others = [way for pole in poles for way in all_ways(net, v, pole) if not set(way[:-1]) & set(poles)]
    return {(one, other) for one in ones for other in others
            if not set(one) & set(other) and fraction(poles[one[-1]]) < fraction(poles[other[-1]])}


def plain_held(net, poles, u, v):
    """The answer out of all pairs of ways."""
    return answer_of(bool(plain_lower_ways(net, poles, v, u)), bool(plain_lower_ways(net, poles, u, v)))
