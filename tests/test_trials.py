"""surepipes/trials.py: trials of readings and of boards, within one another and within themselves."""

import contextlib
import itertools
import unittest

from plain import SMALL
from surepipes.board import Board
from surepipes.errors import InvalidReading, TooMany
from surepipes.nets import Net
from surepipes.readings import Readings
from surepipes.scenes import FedScene, HeldScene

NET = SMALL["bridged"]
DEMANDS = {"a": 2, "b": 0, "c": 0, "d": -2}
POLES = {"a": 9, "d": 0}
FED, HELD = FedScene(NET, DEMANDS), HeldScene(NET, POLES)
READ = HeldScene(NET, POLES, ("b", ">=", "c"))
OTHER = HeldScene(NET, {"b": 1})
PAIRS = list(itertools.product("abcd", repeat=2))
LINE = Net({"ab": ("a", "b"), "bc": ("b", "c"), "cd": ("c", "d"), "de": ("d", "e")})
LINE_PAIRS = list(itertools.product("abcde", repeat=2))

# Which of three trials is begun within which one; the same one within itself, too.
PATHS = [path for length in range(5) for path in itertools.product(range(3), repeat=length)]


class Ended(Exception):
    """Ends a statement."""


def shown_readings(readings):
    """All that readings tell of what they hold."""
    rows = readings.rows()
    same = [list(readings), [row for row in readings], list(readings.copy()), [*readings]]
    assert all(other == rows for other in same), same
    assert len(readings) == len(rows) and all(row in readings for row in rows)
    assert all((u, word, v) in rows for u, v in PAIRS for word in (">", "=", ">=") if (u, word, v) in readings)
    assert all(readings[u, v] == word for u, word, v in rows)
    return rows


def shown_board(board):
    """All scenes that a board remembers, the one that is there last."""
    scenes = [board.scene]
    for _ in range(board.changes):
        board.undo()
        scenes.insert(0, board.scene)
    assert board.changes == 0
    for scene in scenes[1:]:
        board.scene = scene
    return scenes


def placed(rows, more):
    """The readings with further ones."""
    found = {(u, v): word for u, word, v in rows}
    found.update({(u, v): word for u, word, v in more})
    return [(u, word, v) for (u, v), word in found.items()]


class Nested:
    """Goes into trials of an object, one within another, and looks that all is given back.

    What it holds is told by plain lists: `shown(holder)` of what is there, `tried[k](rows)` of what a trial makes of
    them, and `changed(holder, rows, level)`, which changes the object, and tells what is there then.
    """

    def __init__(self, test, holder, trials, shown, tried, changed):
        self.test, self.holder, self.trials = test, holder, trials
        self.shown, self.tried, self.changed = shown, tried, changed

    def go(self, path, caught, level=0):
        """Begins the trials of the path; behind the innermost beginning an error ends those from `caught` on."""
        rows = self.shown(self.holder)
        if not path:
            if caught is not None:
                raise Ended()
            return
        trial, inside = path[0], self.tried[path[0]](rows)
        ending = self.test.assertRaises(Ended) if caught == level else contextlib.nullcontext()
        try:
            with ending, self.trials[trial] as same:
                self.test.assertIs(same, self.holder)
                self.test.assertEqual(self.shown(self.holder), inside)
                inside = self.changed(self.holder, inside, level)
                self.test.assertEqual(self.shown(self.holder), inside)
                self.go(path[1:], caught, level + 1)
                self.test.assertEqual(self.shown(self.holder), inside)
                inside = self.changed(self.holder, inside, level + 1)
                self.test.assertEqual(self.shown(self.holder), inside)
        finally:
            self.test.assertEqual(self.shown(self.holder), rows)

    def go_everywhere(self):
        """All ways into the trials, ended without an error, and by one that ends some or all of the statements."""
        for path in PATHS:
            for caught in [None, *range(len(path))]:
                with self.test.subTest(path=path, caught=caught):
                    self.go(path, caught)


class OfReadings(unittest.TestCase):
    def setUp(self):
        self.readings = Readings(NET, POLES)
        self.readings["b", "c"] = ">="
        self.readings["a", "a"] = "="

    def changed(self, readings, rows, level):
        """Sets and drops readings."""
        if level == 1:
            more = [("c", ">", "b"), ("b", ">=", "b")]
            readings += more
            return placed(rows, more)
        if level == 2:
            readings.drop(rows[0][0], rows[0][2])
            rows = rows[1:]
        readings["d", "c"] = ">" if level == 0 else "="
        return placed(rows, [("d", ">" if level == 0 else "=", "c")])

    def test_within_one_another(self):
        tries = [[("c", ">", "d"), ("b", ">", "c")], [], [("d", "=", "d")]]
        trials = [self.readings.tried(*rows) for rows in tries]
        tried = [lambda rows, more=more: placed(rows, more) for more in tries]
        Nested(self, self.readings, trials, shown_readings, tried, self.changed).go_everywhere()
        self.assertEqual(shown_readings(self.readings), [("b", ">=", "c"), ("a", "=", "a")])

    def test_a_trial_that_does_not_begin(self):
        readings = self.readings
        with readings.tried(("c", ">", "d")):
            inside = shown_readings(readings)
            for wrong in (None, ("e", "=", "a"), ("a", "<", "b")):
                with self.assertRaises(InvalidReading) as caught:
                    with readings.tried(("d", "=", "d"), wrong):
                        self.fail("it began")
                self.assertEqual(caught.exception.position, 1)
                self.assertEqual(shown_readings(readings), inside)
        self.assertEqual(shown_readings(readings), [("b", ">=", "c"), ("a", "=", "a")])

    def test_a_trial_that_does_not_begin_within_itself(self):
        readings = Readings(LINE, {"a": 1})
        trial = readings.tried(*[(u, "=", v) for u, v in LINE_PAIRS[:10]])
        with trial:
            readings += [(u, ">=", v) for u, v in LINE_PAIRS[10:16]]
            inside = shown_readings(readings)
            with trial:
                self.assertEqual(shown_readings(readings), inside)
                readings.drop("a", "a")
                readings["e", "e"] = "="
                changed = shown_readings(readings)
                with self.assertRaises(TooMany):
                    with trial:
                        self.fail("it began")
                self.assertEqual(shown_readings(readings), changed)
            self.assertEqual(shown_readings(readings), inside)
        self.assertEqual(shown_readings(readings), [])

    def test_tried_by_within_itself(self):
        readings = self.readings

        def deed(same, level=3):
            self.assertEqual(len(list(same)), 6 - level)
            same.drop("b", "c")
            same["b", "c"] = "="
            if level == 0:
                raise Ended()
            pair = PAIRS[level]
            try:
                same.tried_by([(pair[0], ">", pair[1])], lambda other: deed(other, level - 1))
            finally:
                self.assertEqual(len(list(same)), 6 - level)
                self.assertEqual(same.rows()[-1], ("b", "=", "c"))

        with self.assertRaises(Ended):
            readings.tried_by([("d", "=", "d")], deed)
        self.assertEqual(shown_readings(readings), [("b", ">=", "c"), ("a", "=", "a")])

    def test_many_within_one_another(self):
        readings = self.readings
        trials = {word: readings.tried(("c", word, "d")) for word in (">", "=")}
        inside = []
        with contextlib.ExitStack() as stack:
            for word in [">", "=", "=", ">"] * 30:
                stack.enter_context(trials[word])
                self.assertEqual(list(readings), [("b", ">=", "c"), ("a", "=", "a"), ("c", word, "d")])
                inside.append(word)
                stack.callback(lambda: self.assertEqual(readings["c", "d"], inside.pop()))
        self.assertEqual(inside, [])
        self.assertEqual(shown_readings(readings), [("b", ">=", "c"), ("a", "=", "a")])

    def test_an_iteration_goes_on_with_what_was_there(self):
        readings = self.readings
        with readings.tried(("c", ">", "d")):
            seen = []
            for row in readings:
                seen.append(row)
                readings.drop(row[0], row[2])
            self.assertEqual(seen, [("b", ">=", "c"), ("a", "=", "a"), ("c", ">", "d")])
            self.assertEqual(list(readings), [])
        self.assertEqual(len(readings), 2)

    def test_an_inner_trial_that_has_not_ended(self):
        readings = self.readings

        def rows_in_a_trial():
            with readings.tried(("d", "=", "d")):
                yield readings.rows()

        with readings.tried(("c", ">", "d")):
            inner = rows_in_a_trial()
            self.assertEqual(len(next(inner)), 4)
            self.assertEqual(len(readings), 4)
        self.assertEqual(shown_readings(readings), [("b", ">=", "c"), ("a", "=", "a")])
        inner.close()


class OfBoards(unittest.TestCase):
    def setUp(self):
        self.board = Board(FED)
        self.board.poles = POLES
        self.board.scene = READ

    def changed(self, board, rows, level):
        """Changes the scene, and takes changes back."""
        if level == 1:
            board.undo()
            board.demands = DEMANDS
            return [*rows[:-1], FED]
        if level == 2:
            board.assign("poles", {"b": 1})
            board.scene = HELD
            return [*rows, OTHER, HELD][-21:]
        for _ in range(board.changes):
            board.undo()
        board.assign("scene", OTHER)
        return [rows[0], OTHER]

    def test_within_one_another(self):
        trials = [self.board.trial() for _ in range(3)]
        Nested(self, self.board, trials, shown_board, [list] * 3, self.changed).go_everywhere()
        self.assertEqual(shown_board(self.board), [FED, HELD, READ])

    def test_tried_by_within_itself(self):
        def deed(board, level=4):
            rows = shown_board(board)
            self.assertEqual(len(rows), 7 - level)
            board.demands = DEMANDS
            if level == 0:
                raise Ended()
            try:
                board.tried_by(lambda same: deed(same, level - 1))
            finally:
                self.assertEqual(shown_board(board), [*rows, FED])

        with self.assertRaises(Ended):
            self.board.tried_by(deed)
        self.assertEqual(shown_board(self.board), [FED, HELD, READ])

    def test_all_that_is_remembered_comes_back(self):
        board = self.board
        for number in range(40):
            board.poles = {"a": number}
        rows = shown_board(board)
        self.assertEqual(rows, [HeldScene(NET, {"a": number}) for number in range(19, 40)])
        trial = board.trial()
        with self.assertRaises(Ended):
            with trial:
                for _ in range(25):
                    board.scene = FED
                with trial, board.trial():
                    for _ in range(20):
                        board.undo()
                    self.assertEqual(board.changes, 0)
                self.assertEqual(shown_board(board), [FED] * 21)
                raise Ended()
        self.assertEqual(shown_board(board), rows)

    def test_an_inner_trial_that_has_not_ended(self):
        board = self.board

        def scenes_in_a_trial():
            with board.trial():
                board.undo()
                yield board.scene

        with board.trial():
            board.demands = DEMANDS
            inner = scenes_in_a_trial()
            self.assertEqual(next(inner), READ)
        self.assertEqual(shown_board(board), [FED, HELD, READ])
        inner.close()


if __name__ == "__main__":
    unittest.main()
