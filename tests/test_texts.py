"""surepipes/texts.py: texts that are read, and the line that is wrong in all others."""

import math
import re
import unittest

from plain import GREAT, SMALL, STRANGE, chance, connected, fraction, some_demands, some_poles, some_readings
from surepipes.amounts import Amount
from surepipes.errors import InvalidText
from surepipes.nets import Net
from surepipes.scenes import FedScene, HeldScene
from surepipes.texts import read_scene

NET = SMALL["bridged"]
PIPES = "pipe ab a b\npipe ac a c\npipe bc b c\n"
NAME = "[a-z]{1,8}"
PIPE = re.compile(f"pipe ({NAME}) ({NAME}) ({NAME})")
ROW = re.compile(f"(demand|pole) ({NAME}) (0|-?[1-9][0-9]*)(?:/([1-9][0-9]*))?")
READING = re.compile(f"reading ({NAME}) (>|=|>=) ({NAME})")


def is_shortest(top, bottom):
    return bottom is None or int(bottom) > 1 and math.gcd(int(top), int(bottom)) == 1


class Plain:
    """Point 92, word for word: either `line`, the wrong one, or what the text tells."""

    def __init__(self, text):
        parts = text.split("\n")
        lines = parts if parts[-1] else parts[:-1]
        self.part, self.pipes, self.table, self.rows, self.line = "pipe", {}, {}, {}, None
        for number, line in enumerate(lines, 1):
            if not self.take(line) or number == len(parts):
                self.line = number
                return
        if not self.is_scene():
            self.line = len(lines) + 1

    def nodes(self):
        return {node for ends in self.pipes.values() for node in ends}

    def take(self, line):
        if match := PIPE.fullmatch(line):
            name, tail, head = match.groups()
            right = self.part == "pipe" and tail != head and all(name > other for other in self.pipes)
            self.pipes[name] = (tail, head)
            return right
        if line in ("fed", "held"):
            right = self.part == "pipe" and bool(self.pipes)
            self.part = line
            return right
        if match := ROW.fullmatch(line):
            word, node, top, bottom = match.groups()
            right = is_shortest(top, bottom) and self.part == {"demand": "fed", "pole": "held"}[word]
            right = right and node in self.nodes() and all(node > other for other in self.table) and not self.rows
            self.table[node] = Amount(int(top), int(bottom or 1))
            return right and (word == "pole" or top != "0")
        if match := READING.fullmatch(line):
            u, word, v = match.groups()
            right = self.part == "held" and self.table and {u, v} <= self.nodes() and (u, v) not in self.rows
            self.rows[u, v] = word
            return bool(right)
        return False

    def is_scene(self):
        if self.part == "pipe" or self.part == "held" and not self.table:
            return False
        if self.part == "fed" and sum(map(fraction, self.table.values())) != 0:
            return False
        nodes = self.nodes()
        return connected(list(self.pipes.values()), nodes) and len(nodes) <= 8 and len(self.pipes) <= 16 and len(self.rows) <= 16

    def scene(self):
        net = Net(self.pipes)
        if self.part == "fed":
            return FedScene(net, {**dict.fromkeys(net.nodes, 0), **self.table})
        return HeldScene(net, self.table, *[(u, word, v) for (u, v), word in self.rows.items()])


FED = "pipe aa x y\npipe b y z\npipe c x z\nfed\ndemand x 1/2\ndemand z -1/2\n"
HELD = "pipe aa x y\npipe b z y\nheld\npole x -3/10\npole y 0\npole z 7\nreading x >= y\nreading y > x\nreading x = z\n"
SMALLEST = ["pipe p a b\nfed\n", "pipe p a b\nheld\npole a 0\n", "pipe p b a\nheld\npole a 1\nreading a = a\n"]


class Reading(unittest.TestCase):
    def check(self, text):
        wanted = Plain(text)
        if wanted.line is not None:
            with self.assertRaises(InvalidText, msg=text) as caught:
                read_scene(text)
            self.assertEqual(caught.exception.line, wanted.line, text)
            self.assertIs(type(caught.exception.line), int)
            return False
        scene = read_scene(text)
        self.assertEqual(str(scene), text)
        self.assertEqual(scene, wanted.scene(), text)
        self.assertIs(type(scene), type(wanted.scene()))
        return True

    def test_texts_of_scenes(self):
        rng = chance(130)
        for net in [*SMALL.values(), GREAT]:
            for _ in range(4):
                rows = some_readings(rng, net, rng.randrange(5))
                for scene in (FedScene(net, some_demands(rng, net)), HeldScene(net, some_poles(rng, net), *rows)):
                    self.assertTrue(self.check(str(scene)))
                    self.assertEqual(read_scene(text=str(scene)), scene)

    def test_texts_that_differ_by_one_sign(self):
        right = 0
        for text in (FED, HELD, *SMALLEST):
            self.assertTrue(self.check(text))
            for at in range(len(text) + 1):
                right += self.check(text[:at])
                right += self.check(text[:at] + text[at + 1:])
                for sign in "abxyz/-0123>=< \nAB,.":
                    right += self.check(text[:at] + sign + text[at:])
                    right += self.check(text[:at] + sign + text[at + 1:])
        self.assertGreater(right, 100)

    def test_texts_with_other_lines(self):
        rng = chance(131)
        right = 0
        lines = [*FED.splitlines(), *HELD.splitlines(), "", " ", "fed ", "held\r", "pipe", "pipe d", "pipe d y y", "pipe D x y",
                 "pole z 7 ", "demand  x 1", "demand x", "reading x", "reading z >= w", "demand w 1", "demand x 0", "pole y -0",
                 "pole y 2/1", "pole y 4/2", "pole y 1/-2", "pole y +1", "pole y 01", "pole y 1/0", "pole y 0/1", "pole y 1/02",
                 "pole y 1.5", "reading x < y", "reading x > x", "fed held", "Pipe d x y", "pipe d x y z", "pipes", "demand x 1/2",
                 "demand y -1/2"]
        for text in (FED, HELD, *SMALLEST):
            told = text.splitlines()
            for at in range(len(told) + 1):
                right += self.check("".join(line + "\n" for line in told[:at] + told[at + 1:]))
                for other in range(at):
                    swapped = [*told]
                    swapped[other:at] = swapped[other:at][::-1]
                    right += self.check("".join(line + "\n" for line in swapped))
                for line in lines:
                    right += self.check("".join(row + "\n" for row in [*told[:at], line, *told[at:]]))
                    right += self.check("".join(row + "\n" for row in [*told[:at], line, *told[at + 1:]]))
                    right += self.check("\n".join([*told[:at], line]))
        for _ in range(2000):
            right += self.check("".join(rng.choice(lines) + "\n" for _ in range(rng.randrange(1, 7))))
        self.assertGreater(right, 50)

    def line(self, text):
        with self.assertRaises(InvalidText) as caught:
            read_scene(text)
        return caught.exception.line

    def test_told_lines(self):
        for text, line in (("", 1), ("\n", 1), ("pipe p a b", 1), ("pipe p a b\n", 2), ("fed\n", 1), ("pipe p a b\nheld\n", 3),
                           ("pipe p a b\nheld\nreading a = a\n", 3), ("pipe p a b\nfed", 2), ("pipe p a b\nfed\n\n", 3),
                           ("pipe p a a\nfed\n", 1), ("pipe q a b\npipe p a b\nfed\n", 2), ("pipe p a b\npipe p a b\nfed\n", 2),
                           ("pipe p a b\nfed\ndemand a 1\n", 4), ("pipe p a b\nfed\ndemand a 0\n", 3),
                           ("pipe p a b\nfed\ndemand b 1\ndemand a -1\n", 4), ("pipe p a b\nfed\ndemand a 1\ndemand a -1\n", 4),
                           ("pipe p a b\npipe q c d\nfed\n", 4), ("pipe p a b\npipe q c d\nfed\npole a 1\n", 4),
                           ("pipe p a b\nheld\npole c 1\n", 3), ("pipe p a b\nheld\npole a 1\nreading a > c\n", 4),
                           ("pipe p a b\nheld\npole a 1\nreading a > b\nreading a = b\n", 5),
                           ("pipe p a b\nheld\npole a 1\nreading a > b\npole b 1\n", 5), (" pipe p a b\nfed\n", 1),
                           ("pipe p a b \nfed\n", 1), ("pipe p a b\nfed\nheld\n", 3), ("pipe p a b\nfed\npipe q a b\n", 3),
                           ("x\npipe p a b\nfed", 1), ("pipe longnames a b\nfed\n", 1), ("pipe p a b\nfed \n", 2)):
            self.assertEqual(self.line(text), line, text)

    def test_limits(self):
        nine = "".join(f"pipe {name} {name} {chr(ord(name) + 1)}\n" for name in "abcdefgh")
        self.assertEqual(self.line(nine + "fed\n"), 10)
        self.assertTrue(self.check(nine.replace("pipe h h i\n", "") + "fed\n"))
        many = "".join(f"pipe {name} x y\n" for name in "abcdefghijklmnopq")
        self.assertEqual(self.line(many + "held\npole x 1\n"), 20)
        self.assertTrue(self.check(many.replace("pipe q x y\n", "") + "held\npole x 1\n"))
        pairs = [(u, v) for u in "vwxyz" for v in "vwxyz"]
        pipes = "pipe a v w\npipe b w x\npipe c x y\npipe d y z\nheld\npole x 1\n"
        self.assertTrue(self.check(pipes + "".join(f"reading {u} >= {v}\n" for u, v in pairs[:16])))
        self.assertEqual(self.line(pipes + "".join(f"reading {u} >= {v}\n" for u, v in pairs[:17])), 24)

    def test_great_numbers(self):
        great = 10 ** 20 - 1
        self.assertTrue(self.check(f"pipe p a b\nheld\npole a -{great}/{great - 1}\npole b {great}\n"))

    def test_what_is_no_string(self):
        for value in [*STRANGE, 1, ["pipe p a b"], ("pipe p a b\nfed\n",), b"pipe p a b\nfed\n", FedScene(NET, dict.fromkeys("abcd", 0))]:
            if not isinstance(value, str):
                with self.assertRaises(InvalidText) as caught:
                    read_scene(value)
                self.assertIsNone(caught.exception.line)


if __name__ == "__main__":
    unittest.main()
