"""A board: a scene that changes, and questions about it that are lines of text."""

from surepipes.amounts import is_name
from surepipes.changes import fed_closing, fed_opening, held_closing, held_opening
from surepipes.errors import InvalidLine, InvalidWord, LimitError, MissingError, NothingToUndo, PipeError, StateError
from surepipes.orders import Order
from surepipes.ranges import flow_stretch
from surepipes.scenes import Fed, FedScene, Held, HeldScene
from surepipes.signs import height_stretch
from surepipes.trials import Layer, Trial, put_rows, rows_of

MOST_CHANGES = 20

# How many names stand in a line behind each first word; the names in a line `possible` are told otherwise.
NAMES = {"compare": 2, "direction": 1, "range": 1, "close": 3, "open": 4}
POSSIBLE = "possible "


def _compare(scene, names):
    u, v = names
    found = scene.compare(u, v)
    return found if isinstance(found, str) else " ".join(found)


def _direction(scene, names):
    return scene.direction(names[0])


def _range(scene, names):
    if isinstance(scene, Fed):
        stretch = flow_stretch(scene.net, scene.demands, names[0])
    else:
        stretch = height_stretch(scene.net, scene.poles, names[0])
    return f"{stretch.low} {stretch.high}"


def _close(scene, names):
    pipe, u, v = names
    if isinstance(scene, Fed):
        return fed_closing(scene.net, scene.demands, pipe, u, v)
    return held_closing(scene.net, scene.poles, pipe, u, v)


def _opening(scene, names):
    tail, head, u, v = names
    if isinstance(scene, Fed):
        return fed_opening(scene.net, scene.demands, tail, head, u, v)
    return held_opening(scene.net, scene.poles, tail, head, u, v)


def _possible(scene, levels):
    return "yes" if scene.allows(Order(levels)) else "no"


ANSWERS = {"compare": _compare, "direction": _direction, "range": _range, "close": _close, "open": _opening,
           "possible": _possible}


def _question(line):
    """The first word of a line, and the list of what stands behind it; None for any value that is no such line."""
    if not isinstance(line, str):
        return None
    if line.startswith(POSSIBLE):
        levels = [level.split(",") for level in line.removeprefix(POSSIBLE).split(" > ")]
        if not all([is_name(name) for level in levels for name in level]):
            return None
        return ("possible", levels)
    word, *names = line.split(" ")
    if word not in NAMES or len(names) != NAMES[word] or not all([is_name(name) for name in names]):
        return None
    return (word, names)


class Board:
    """A scene, and what was there ahead of the last changes."""

    def __init__(self, scene):
        # The rows are scenes: the earlier ones that are remembered, and at the end the one that is there.
        self._layer = Layer([scene])

    @property
    def scene(self):
        """The scene."""
        scenes = rows_of(self._layer)
        return scenes[-1]

    @scene.setter
    def scene(self, value):
        self._change(value)

    @property
    def demands(self):
        """The dict of the demands; None if the scene is none of a fed net."""
        scene = self.scene
        return scene.demands if isinstance(scene, Fed) else None

    @demands.setter
    def demands(self, value):
        self._change(FedScene(self.scene.net, value))

    @property
    def poles(self):
        """The dict of the heights of the poles; None if the scene is none of a held net."""
        scene = self.scene
        return scene.poles if isinstance(scene, Held) else None

    @poles.setter
    def poles(self, value):
        self._change(HeldScene(self.scene.net, value))

    def _change(self, scene):
        scenes = rows_of(self._layer)
        past = scenes[-MOST_CHANGES:]
        put_rows(self._layer, [*past, scene])

    def assign(self, part, value):
        """The same as assigning to the property with this name."""
        if not isinstance(part, str) or part not in ("scene", "demands", "poles"):
            raise InvalidWord(part)
        net = self.scene.net
        if part == "demands":
            self._change(FedScene(net, value))
        elif part == "poles":
            self._change(HeldScene(net, value))
        else:
            self._change(value)

    def ask(self, line):
        """The answer to a line, a string."""
        question = _question(line)
        if question is None:
            raise InvalidLine(line)
        word, told = question
        answer = ANSWERS[word]
        scene = self.scene
        try:
            return answer(scene, told)
        except (PipeError, MissingError, StateError, LimitError) as error:
            raise InvalidLine(line) from error

    def undo(self):
        """Takes back the last change that is not taken back."""
        scenes = rows_of(self._layer)
        if len(scenes) == 1:
            raise NothingToUndo()
        put_rows(self._layer, scenes[:-1])

    @property
    def changes(self):
        """How many changes are remembered."""
        return len(rows_of(self._layer)) - 1

    def _rows_with(self, rows):
        """The list of the scenes at the beginning of a trial, which sets none of its own."""
        scenes = rows_of(self._layer)
        return [*scenes, *rows]

    def trial(self):
        """A context manager behind whose statement the board is as it was."""
        return Trial(self, ())

    def tried_by(self, deed):
        """What deed(board) returns; the board is as it was behind it."""
        with Trial(self, ()) as board:
            return deed(board)
