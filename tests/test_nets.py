"""surepipes/nets.py: the class Net."""

import unittest

from plain import GREAT, PIPES, SMALL, STRANGE, chance, connected, ends_of, some_net
from surepipes.amounts import Amount
from surepipes.errors import InvalidPipes, IsBridge, NotConnected, TooMany, UnknownNode, UnknownPipe
from surepipes.nets import Net

NETS = {**SMALL, "great": GREAT}
LETTERS = "abcdefghijklmnopqrstuvwxyz"


class Making(unittest.TestCase):
    def test_names_and_nodes(self):
        for name, pipes in PIPES.items():
            with self.subTest(name):
                net = Net(pipes)
                self.assertEqual(net.names(), sorted(pipes))
                self.assertEqual(list(net), sorted(pipes))
                self.assertEqual(len(net), len(pipes))
                self.assertEqual(net.nodes, tuple(sorted({node for ends in pipes.values() for node in ends})))
                self.assertIs(type(net.nodes), tuple)
                for pipe, ends in pipes.items():
                    self.assertEqual(net[pipe], ends)
                    self.assertIs(type(net[pipe]), tuple)
                    self.assertIn(pipe, net)

    def test_by_keywords(self):
        self.assertEqual(Net.of(p=("a", "b"), q=("b", "a")), Net({"q": ("b", "a"), "p": ("a", "b")}))
        self.assertEqual(Net.of(pipes=("a", "b"), self=("b", "c")), Net({"pipes": ("a", "b"), "self": ("b", "c")}))
        self.assertEqual(Net(pipes={"p": ("a", "b")}), Net.of(p=("a", "b")))
        self.assertIs(type(Net.of(p=("a", "b"))), Net)

    def test_by_keywords_that_are_wrong(self):
        for keywords, name in [({}, None), ({"Ab": ("a", "b")}, None), ({"p": ("a", "b"), "longnames": 3}, None),
                               ({"p": ("a", "b"), "q": ["a", "b"]}, "q"), ({"p": ("a", "a")}, "p")]:
            with self.assertRaises(InvalidPipes) as caught:
                Net.of(**keywords)
            self.assertEqual(caught.exception.name, name)
        with self.assertRaises(NotConnected):
            Net.of(p=("a", "b"), q=("c", "d"))

    def test_the_limits(self):
        self.assertEqual((Net.MAX_NODES, Net.MAX_PIPES, GREAT.MAX_NODES, GREAT.MAX_PIPES), (8, 16, 8, 16))
        self.assertEqual((len(GREAT.nodes), len(GREAT)), (8, 16))
        path = {letter: (letter, following) for letter, following in zip(LETTERS, LETTERS[1:])}
        self.assertEqual(len(Net(dict(list(path.items())[:7])).nodes), 8)
        beside = {letter: ("a", "b") for letter in LETTERS}
        self.assertEqual(len(Net(dict(list(beside.items())[:16]))), 16)
        both = {**ends_of(GREAT), "x": ("a", "i")}
        for pipes, what in [(dict(list(path.items())[:8]), ("nodes", 8)), (path, ("nodes", 8)),
                            (dict(list(beside.items())[:17]), ("pipes", 16)), (beside, ("pipes", 16)),
                            (both, ("nodes", 8)), ({**ends_of(GREAT), "x": ("a", "g")}, ("pipes", 16))]:
            with self.assertRaises(TooMany) as caught:
                Net(pipes)
            self.assertEqual((caught.exception.what, caught.exception.limit), what)

    def test_equal(self):
        for name, pipes in PIPES.items():
            self.assertIs(Net(pipes) == Net(dict(list(pipes.items())[::-1])), True)
            for other, others in PIPES.items():
                self.assertIs(Net(pipes) == Net(others), name == other)
                self.assertIs(Net(pipes) != Net(others), name != other)
        for value in [*STRANGE[:-2], {"p": ("a", "b")}, ["p"], "p"]:
            self.assertIs(Net.of(p=("a", "b")) == value, False)

    def test_repr(self):
        self.assertEqual(repr(Net({"ab": ("a", "b")})), "Net({'ab': ('a', 'b')})")
        self.assertEqual(repr(Net({"q": ("c", "b"), "p": ("a", "b")})), "Net({'p': ('a', 'b'), 'q': ('c', 'b')})")
        for net in NETS.values():
            self.assertEqual(eval(repr(net)), net)

    def test_what_is_passed_and_returned_is_copied(self):
        pipes = {"q": ("b", "c"), "p": ("a", "b")}
        net = Net(pipes)
        self.assertEqual(list(pipes.items()), [("q", ("b", "c")), ("p", ("a", "b"))])
        pipes["r"] = ("c", "d")
        net.names().append("z")
        net.neighbours("b").clear()
        net.between("a", "b").append("z")
        net.bridges().clear()
        self.assertEqual(net, Net({"p": ("a", "b"), "q": ("b", "c")}))
        self.assertEqual((net.neighbours("b"), net.between("a", "b"), net.bridges(), net.names(), list(net)),
                         (["a", "c"], ["p"], ["p", "q"], ["p", "q"], ["p", "q"]))

    def test_nodes_cannot_be_assigned(self):
        with self.assertRaises(AttributeError):
            GREAT.nodes = ()


class WrongPipes(unittest.TestCase):
    def name(self, pipes):
        with self.assertRaises(InvalidPipes) as caught:
            Net(pipes)
        return caught.exception.name

    def test_no_dict_of_names(self):
        ends = ("a", "b")
        for value in [*STRANGE, {}, [], [("p", ends)], (("p", ends),), 0, 1, GREAT, {1: ends}, {None: ends},
                      {True: ends}, {"": ends}, {"P": ends}, {"p1": ends}, {"pqrstuvwx": ends}, {("p",): ends},
                      {b"p": ends}, {"p": ends, "q ": ends}, {"p": ("a", "a"), 1: ends}, {"p": None, None: None}]:
            self.assertIsNone(self.name(value))

    def test_no_tuples_of_two_different_names(self):
        for wrong in [*STRANGE, "ab", ["a", "b"], (), ("a",), ("a", "b", "c"), ("a", "a"), ("a", 1), (1, "b"),
                      ("a", None), ("a", True), ("a", ""), ("A", "b"), ("a", "bcdefghij"), ("a", ("b",)), ("a", ["b"]),
                      {"a": "b"}, {"a", "b"}, Amount(1)]:
            self.assertEqual(self.name({"p": wrong}), "p")
            self.assertEqual(self.name({"q": ("a", "b"), "p": wrong, "o": ("a", "a")}), "p")
            self.assertEqual(self.name({"q": ("a", "b"), "r": ("c", "d"), "p": wrong}), "p")

    def test_the_first_in_the_sequence_of_the_dict(self):
        self.assertEqual(self.name({"z": None, "a": None}), "z")
        self.assertEqual(self.name({"m": ("a", "b"), "z": ("a",), "a": None}), "z")

    def test_not_connected(self):
        for pipes, node in [({"p": ("a", "b"), "q": ("c", "d")}, "c"), ({"p": ("d", "a"), "q": ("c", "b")}, "b"),
                            ({"p": ("z", "y"), "q": ("a", "x"), "r": ("x", "c")}, "y"),
                            ({**ends_of(GREAT), "x": ("ba", "aa")}, "aa")]:
            with self.assertRaises(NotConnected) as caught:
                Net(pipes)
            self.assertEqual(caught.exception.node, node)

    def test_the_sequence_of_the_errors(self):
        far = {letter: (letter, letter + "x") for letter in LETTERS}
        with self.assertRaises(NotConnected) as caught:
            Net(far)
        self.assertEqual(caught.exception.node, "b")
        self.assertEqual(self.name({**far, "zz": ("a",)}), "zz")


class Asking(unittest.TestCase):
    def test_what_is_no_pipe(self):
        net = SMALL["bridged"]
        for value in [*STRANGE, "a", "ba", "abc", 0, 1, [], ("ab",), ["ab"], {}, Amount(1)]:
            self.assertIs(value in net, False)
            for told in (lambda: net[value], lambda: net.without(value), lambda: net.is_bridge(value),
                         lambda: net.turned(value), lambda: net.turned("ab", value), lambda: net.turned(value, "z")):
                with self.assertRaises(UnknownPipe) as caught:
                    told()
                self.assertIs(caught.exception.value, value)

    def test_what_is_no_node(self):
        net = SMALL["bridged"]
        for value in [*STRANGE, "e", "ab", 0, 1, [], ("a",), ["a"], {}, Amount(1)]:
            for told in (lambda: net.neighbours(value), lambda: net.between(value, "a"), lambda: net.between("a", value),
                         lambda: net.between(value, "z"), lambda: net.joined("x", value, "a"),
                         lambda: net.joined("x", "a", value), lambda: net.joined("x", value, "z")):
                with self.assertRaises(UnknownNode) as caught:
                    told()
                self.assertIs(caught.exception.value, value)

    def test_neighbours(self):
        for net in NETS.values():
            for node in net.nodes:
                wanted = {far for ends in ends_of(net).values() if node in ends for far in ends} - {node}
                self.assertEqual(net.neighbours(node), sorted(wanted))
                self.assertEqual(net.neighbours(node=node), sorted(wanted))

    def test_between(self):
        for net in NETS.values():
            for u in net.nodes:
                for v in net.nodes:
                    wanted = [name for name in sorted(net) if set(net[name]) == {u, v}]
                    self.assertEqual(net.between(u, v), wanted)
                    self.assertEqual(net.between(v=v, u=u), wanted)
        self.assertEqual(GREAT.between("b", "a"), ["ab", "ba"])
        self.assertEqual(GREAT.between("a", "a"), [])

    def test_bridges(self):
        rng = chance(1)
        for net in [*NETS.values(), *[some_net(rng, rng.randrange(2, 9), rng.randrange(8, 12)) for _ in range(30)]]:
            pipes = ends_of(net)
            wanted = [name for name in sorted(pipes)
                      if not connected([ends for other, ends in pipes.items() if other != name], net.nodes)]
            self.assertEqual(net.bridges(), wanted)
            for name in net:
                self.assertIs(net.is_bridge(pipe=name), name in wanted)
        self.assertEqual(SMALL["triangle with a tail"].bridges(), ["cd"])


class Changing(unittest.TestCase):
    def test_without(self):
        for net in NETS.values():
            for name in net:
                if net.is_bridge(name):
                    with self.assertRaises(IsBridge) as caught:
                        net.without(name)
                    self.assertIs(caught.exception.pipe, name)
                else:
                    wanted = {other: ends for other, ends in ends_of(net).items() if other != name}
                    self.assertEqual(net.without(pipe=name), Net(wanted))
                    self.assertEqual(net.without(name).nodes, net.nodes)
                    self.assertIn(name, net)

    def test_joined(self):
        for net in SMALL.values():
            for tail in net.nodes:
                for head in net.nodes:
                    if tail != head:
                        wanted = Net({**ends_of(net), "new": (tail, head)})
                        self.assertEqual(net.joined("new", tail, head), wanted)
                        self.assertEqual(net.joined(head=head, tail=tail, name="new"), wanted)
                        self.assertNotIn("new", net)

    def test_joined_with_what_is_wrong(self):
        net = SMALL["bridged"]
        for value in [*STRANGE, "ab", "cd", "longnames", 1, ["x"], ("x",)]:
            for ends in (("a", "b"), ("a", "a"), ("z", "a"), (None, None)):
                with self.assertRaises(InvalidPipes) as caught:
                    net.joined(value, *ends)
                self.assertIs(caught.exception.name, value)
        for tail, head, wrong in [("z", "y", "z"), ("a", "z", "z"), ("z", "z", "z"), ("a", "a", "a"), ("d", "d", "d")]:
            with self.assertRaises(UnknownNode) as caught:
                net.joined("x", tail, head)
            self.assertEqual(caught.exception.value, wrong)

    def test_joined_to_a_full_net(self):
        with self.assertRaises(TooMany) as caught:
            GREAT.joined("x", "a", "g")
        self.assertEqual((caught.exception.what, caught.exception.limit), ("pipes", 16))
        with self.assertRaises(UnknownNode):
            GREAT.joined("x", "a", "i")
        with self.assertRaises(UnknownNode):
            GREAT.joined("x", "a", "a")
        with self.assertRaises(InvalidPipes):
            GREAT.joined("ab", "a", "g")
        self.assertEqual(len(GREAT.without("ab").joined("x", "a", "g")), 16)

    def test_turned(self):
        net = SMALL["bridged"]
        back = {name: ends[::-1] for name, ends in ends_of(net).items()}
        self.assertEqual(net.turned("bc"), Net({**ends_of(net), "bc": ("c", "b")}))
        self.assertEqual(net.turned(*back), Net(back))
        self.assertEqual(net.turned("bc", "ab", "bc"), net.turned("ab"))
        self.assertEqual(net.turned("bc", "bc", "bc"), net.turned("bc"))
        self.assertEqual(net.turned(), net)
        self.assertEqual(net, SMALL["bridged"])
        self.assertEqual(net["bc"], ("b", "c"))

    def test_turned_by_what_is_wrong(self):
        for names, wrong in [(("x", "y"), "x"), (("ab", "y", "x"), "y"), (("ab", "ab", 1), 1)]:
            with self.assertRaises(UnknownPipe) as caught:
                SMALL["bridged"].turned(*names)
            self.assertEqual(caught.exception.value, wrong)


if __name__ == "__main__":
    unittest.main()
