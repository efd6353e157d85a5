"""The texts of scenes, read line by line."""

from surepipes.amounts import Amount, is_name
from surepipes.errors import InvalidText, NotConnected, TooMany, Unbalanced
from surepipes.nets import Net
from surepipes.readings import is_word
from surepipes.scenes import FedScene, HeldScene

PIPES = "pipes"
FED = "fed"
HELD = "held"


def _amount(text):
    """The Amount with this text; None if there is none."""
    try:
        return Amount.read(text)
    except InvalidText:
        return None


def _last(table):
    """The last key of a dict; a string ahead of all names if there is none."""
    keys = list(table)
    return keys[-1] if keys else ""


class Reader:
    """What the lines have told so far."""

    def __init__(self):
        self._part = PIPES
        self._pipes = {}
        self._nodes = {}
        self._amounts = {}
        self._rows = []

    def take(self, line):
        """Whether a line can stand here; then it is kept."""
        words = line.split(" ")
        if words[0] == "pipe":
            return self._take_pipe(words)
        if words[0] == "demand":
            return self._part == FED and self._take_amount(words, False)
        if words[0] == "pole":
            return self._part == HELD and not self._rows and self._take_amount(words, True)
        if words[0] == "reading":
            return self._take_reading(words)
        return self._take_part(line)

    def _take_pipe(self, words):
        if self._part != PIPES or len(words) != 4 or not all([is_name(word) for word in words[1:]]):
            return False
        _, pipe, tail, head = words
        if pipe <= _last(self._pipes) or tail == head:
            return False
        self._pipes[pipe] = (tail, head)
        self._nodes[tail] = True
        self._nodes[head] = True
        return True

    def _take_part(self, line):
        if self._part != PIPES or not self._pipes or line not in (FED, HELD):
            return False
        self._part = line
        return True

    def _take_amount(self, words, can_be_0):
        if len(words) != 3:
            return False
        _, node, text = words
        amount = _amount(text)
        if node not in self._nodes or node <= _last(self._amounts) or amount is None:
            return False
        self._amounts[node] = amount
        return can_be_0 or amount.sign != 0

    def _take_reading(self, words):
        if self._part != HELD or not self._amounts or len(words) != 4:
            return False
        _, u, word, v = words
        if u not in self._nodes or not is_word(word) or v not in self._nodes:
            return False
        if any([(row[0], row[2]) == (u, v) for row in self._rows]):
            return False
        self._rows.append((u, word, v))
        return True

    def told_scene(self):
        """The scene that was told; None if it is not told to the end."""
        if self._part == FED:
            return FedScene(Net(self._pipes), {node: self._amounts.get(node, 0) for node in self._nodes})
        if self._part == HELD and self._amounts:
            net = Net(self._pipes)
            rows = self._rows
            return HeldScene(net, self._amounts, *rows)
        return None


def _scene_told(reader):
    """The scene that a reader was told; None if it is none."""
    try:
        return reader.told_scene()
    except (NotConnected, TooMany, Unbalanced):
        return None


def read_scene(text):
    """The FedScene or HeldScene with this text."""
    if not isinstance(text, str):
        raise InvalidText(None)
    *lines, rest = text.split("\n")
    reader = Reader()
    for number, line in enumerate(lines, 1):
        if not reader.take(line):
            raise InvalidText(number)
    scene = None
    if rest == "":
        scene = _scene_told(reader)
    # What stands behind the last line feed is a line that is wrong; if nothing stands there, the next line is missing.
    if scene is None:
        raise InvalidText(len(lines) + 1)
    return scene
