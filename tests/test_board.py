"""surepipes/board.py: the board, its lines, its changes and trials."""

import itertools
import unittest

from plain import (GREAT, SMALL, STRANGE, Hostile, all_orders, chance, some_demands, some_net, some_poles, some_readings)
from surepipes.amounts import Amount
from surepipes.board import Board
from surepipes.changes import fed_closing, fed_opening, held_closing, held_opening
from surepipes.errors import (Barred, InvalidDemands, InvalidLevels, InvalidLine, InvalidOrder, InvalidPoles, InvalidWord,
                              IsBridge, LimitError, MissingError, NothingToUndo, NotSure, PipeError, StateError, Unbalanced,
                              UnknownNode, UnknownPipe)
from surepipes.orders import Order
from surepipes.ranges import flow_stretch
from surepipes.scenes import FedScene, HeldScene
from surepipes.signs import height_stretch

RNG = chance(160)
NETS = {**{name: net for name, net in SMALL.items() if len(net.nodes) < 5},
        **{f"chance {at}": some_net(RNG, 4, RNG.randrange(3, 8)) for at in range(3)}}
NET = SMALL["bridged"]
TAIL = SMALL["triangle with a tail"]
DEMANDS = {"a": 2, "b": 0, "c": 0, "d": -2}
POLES = {"a": 9, "d": 0}
FED, HELD = FedScene(NET, DEMANDS), HeldScene(NET, POLES)
READ = HeldScene(NET, POLES, ("b", ">=", "c"))
BARRED = HeldScene(NET, POLES, ("b", ">", "c"), ("c", ">", "b"))
OURS = (PipeError, MissingError, StateError, LimitError)


class Lines(unittest.TestCase):
    def check(self, scene, line, deed):
        """The board answers what the deed does, or refuses the line because of the same error."""
        board = Board(scene)
        try:
            wanted = deed()
        except OURS as error:
            with self.assertRaises(InvalidLine, msg=line) as caught:
                board.ask(line)
            self.assertEqual(caught.exception.value, line)
            self.assertIs(type(caught.exception.__cause__), type(error))
            return type(error)
        found = board.ask(line)
        self.assertIs(type(found), str)
        self.assertEqual(found, wanted, (str(scene), line))
        return found

    def scenes(self, seed):
        rng = chance(seed)
        for net in NETS.values():
            yield FedScene(net, some_demands(rng, net))
            for many in (0, 1, 3):
                yield HeldScene(net, some_poles(rng, net), *some_readings(rng, net, many))

    def test_compare_direction_range(self):
        seen = set()
        for scene in self.scenes(161):
            net = scene.net
            fed = type(scene) is FedScene
            for u, v in itertools.product([*net.nodes, "zz"], repeat=2):
                def compare():
                    found = scene.compare(u, v)
                    return found if type(found) is str else " ".join(found)
                seen.add(self.check(scene, f"compare {u} {v}", compare))
            for name in [*net, *net.nodes, "zz"]:
                def stretch():
                    found = flow_stretch(net, scene.demands, name) if fed else height_stretch(net, scene.poles, name)
                    return f"{found.low} {found.high}"
                self.check(scene, f"direction {name}", lambda: scene.direction(name))
                seen.add(self.check(scene, f"range {name}", stretch))
        self.assertTrue({"open", "above", "level", "below", "0 0", UnknownNode, UnknownPipe, Barred} <= seen)

    def test_possible(self):
        seen = set()
        for scene in self.scenes(162):
            for levels in all_orders(scene.net.nodes):
                order = Order(levels)
                found = self.check(scene, f"possible {order}", lambda: "yes" if scene.allows(order) else "no")
                mixed = " > ".join(",".join(level[::-1]) for level in levels)
                self.assertEqual(Board(scene).ask(f"possible {mixed}"), found)
                seen.add(found)
        self.assertEqual(seen, {"yes", "no"})

    def test_close_and_open(self):
        seen = set()
        for scene in self.scenes(163):
            net = scene.net
            fed = type(scene) is FedScene
            table = scene.demands if fed else scene.poles
            for u, v in [*itertools.product(net.nodes, repeat=2), ("zz", "a"), ("a", "zz")]:
                for pipe in [*list(net)[:3], "zz"]:
                    deed = fed_closing if fed else held_closing
                    seen.add(self.check(scene, f"close {pipe} {u} {v}", lambda: deed(net, table, pipe, u, v)))
                for tail, head in [*itertools.combinations(net.nodes[:3], 2), ("zz", "a")]:
                    deed = fed_opening if fed else held_opening
                    seen.add(self.check(scene, f"open {tail} {head} {u} {v}", lambda: deed(net, table, tail, head, u, v)))
        self.assertEqual(seen, {"greater", "equal", "less", "open", UnknownNode, UnknownPipe, IsBridge, NotSure})

    def test_told_answers(self):
        fed, held, read = Board(FED), Board(HELD), Board(READ)
        for board, line, answer in (
                (fed, "compare b c", "open"), (fed, "compare a b", "above"), (fed, "direction ab", "along"),
                (fed, "range bc", "-2 2"), (fed, "close ab c d", "greater"), (fed, "open a d a b", "less"),
                (fed, "possible a > b,c > d", "yes"), (fed, "possible a > c,b > d", "yes"), (fed, "possible d > c,b > a", "no"),
                (held, "compare b c", "open"), (held, "compare b d", "above"), (held, "direction bc", "open"),
                (held, "range b", "0 9"), (held, "range d", "0 0"), (held, "close ab b d", "less"),
                (held, "open a b b d", "greater"), (held, "possible a > c > b > d", "yes"), (held, "possible a,b > c > d", "no"),
                (read, "compare b c", "above level"), (read, "compare c b", "level below"), (read, "compare a b", "above"),
                (read, "direction bc", "open"), (read, "range b", "0 9"), (read, "possible a > c > b > d", "no"),
                (read, "close ab b d", "less")):
            self.assertEqual(board.ask(line=line), answer, line)
        halves = Board(FedScene(NET, {"a": Amount(3, 2), "b": 0, "c": 0, "d": Amount(-3, 2)}))
        self.assertEqual(halves.ask("range bc"), "-3/2 3/2")
        self.assertEqual(Board(FedScene(NET, dict.fromkeys("abcd", 0))).ask("range bc"), "0 0")
        everything = Board(HeldScene(NET, POLES, ("a", ">=", "d")))
        self.assertEqual(everything.ask("compare b c"), "above level below")
        self.assertEqual(Board(FedScene(GREAT, dict.fromkeys(GREAT.nodes, 0))).ask("possible h,g,f,e,d,c,b,a"), "yes")

    def test_values_that_have_no_form(self):
        board = Board(FED)
        lines = [*STRANGE, 1, ["compare a b"], ("compare", "a", "b"), b"compare a b", "compare", "compare ", "compare a", "compare a b ",
                 " compare a b", "compare  a b", "compare a  b", "compare a b c", "compare a,b", "Compare a b", "compare A b",
                 "compare a b\n", "compare a longnames", "compare a 1", "direction", "direction ab bc", "direction  ab",
                 "direction AB", "range", "range a b", "range -1", "possible", "possible ", "possible a>b,c>d",
                 "possible a > b, c > d", "possible a > b,c > d ", "possible  a > b,c > d", "possible a > b,c >d",
                 "possible a > > b,c > d", "possible a > b,,c > d", "possible a > B,c > d", "possible > a", "possible a >",
                 "possible a > ,b > c > d", "possible a = b > c > d", "close", "close ab c", "close ab c d a", "close ab  c d",
                 "open a d a", "open a d a b c", "open", "open a,d a b", "help", "compare\ta b", "scene", "undo", "a b", "a",
                 "demands a b", "possible:a > b,c > d", "direction a-b", "closed ab c d", Hostile()]
        for line in lines:
            with self.assertRaises(InvalidLine) as caught:
                board.ask(line)
            self.assertIs(caught.exception.value, line)
            self.assertIsNone(caught.exception.__cause__)

    def test_errors_of_functions(self):
        tail = Board(FedScene(TAIL, {**dict.fromkeys("abcde", 0), "a": 1, "b": -1}))
        for board, line, error, value in (
                (Board(FED), "compare z b", UnknownNode, "z"), (Board(FED), "compare b z", UnknownNode, "z"),
                (Board(FED), "direction zz", UnknownPipe, "zz"), (Board(FED), "range a", UnknownPipe, "a"),
                (Board(HELD), "range ab", UnknownNode, "ab"), (Board(FED), "possible a > b,b > c > d", InvalidLevels, 1),
                (Board(FED), "possible a > b > c > d > a", InvalidLevels, 4), (Board(FED), "close bc a d", NotSure, "bc"),
                (Board(HELD), "close bc a d", NotSure, "bc"), (Board(FED), "open b c a d", NotSure, ("b", "c")),
                (Board(HELD), "open b c a d", NotSure, ("b", "c")), (tail, "close cd a b", IsBridge, "cd"),
                (Board(FED), "close zz a d", UnknownPipe, "zz"), (Board(FED), "close ab z d", UnknownNode, "z"),
                (Board(HELD), "open a z a d", UnknownNode, "z"), (Board(BARRED), "compare a b", Barred, None)):
            with self.assertRaises(InvalidLine) as caught:
                board.ask(line)
            self.assertEqual(caught.exception.value, line)
            cause = caught.exception.__cause__
            self.assertIs(type(cause), error)
            self.assertEqual(list(vars(cause).values()), [] if value is None else [value])
        for line in ("possible a > b,c", "possible a > b,c > d > e"):
            with self.assertRaises(InvalidLine) as caught:
                Board(HELD).ask(line)
            self.assertIs(type(caught.exception.__cause__), InvalidOrder)
            self.assertIs(type(caught.exception.__cause__.value), Order)
        self.assertEqual(Board(BARRED).ask("direction bc"), "open")
        self.assertEqual(Board(BARRED).ask("possible a > b,c > d"), "no")


class Changing(unittest.TestCase):
    def test_the_example(self):
        board = Board(scene=FED)
        self.assertEqual((board.scene, board.demands, board.poles, board.changes), (FED, FED.demands, None, 0))
        board.poles = {"d": 0, "a": Amount(9)}
        self.assertEqual((board.scene, board.demands, board.poles, board.changes), (HELD, None, HELD.poles, 1))
        self.assertIsNone(board.undo())
        self.assertEqual((board.scene, board.changes), (FED, 0))
        board.scene = READ
        self.assertEqual((board.scene, board.poles, board.demands), (READ, HELD.poles, None))
        board.demands = DEMANDS
        self.assertEqual((board.changes, board.ask("compare b c")), (2, "open"))
        board.undo()
        self.assertEqual((board.scene, board.changes, board.ask("compare b c")), (READ, 1, "above level"))

    def test_poles_come_without_readings(self):
        board = Board(READ)
        board.poles = POLES
        self.assertEqual((board.scene, board.scene.readings, board.changes), (HELD, [], 1))

    def test_the_net_that_is_there(self):
        board = Board(FED)
        board.scene = FedScene(TAIL, dict.fromkeys("abcde", 0))
        board.poles = {"e": 1}
        self.assertEqual(board.scene, HeldScene(TAIL, {"e": 1}))
        board.demands = {"a": 1, "b": 0, "c": 0, "d": 0, "e": -1}
        self.assertEqual(board.scene.net, TAIL)

    def test_an_equal_scene_is_a_change_too(self):
        board = Board(FED)
        board.scene = board.scene
        board.demands = DEMANDS
        self.assertEqual((board.changes, board.scene), (2, FED))

    def test_what_is_passed_and_returned_is_copied(self):
        demands, poles = dict(DEMANDS), dict(POLES)
        board = Board(FED)
        board.demands = demands
        demands.clear()
        board.demands.clear()
        self.assertEqual(board.demands, FED.demands)
        self.assertEqual(list(board.demands), ["a", "b", "c", "d"])
        board.poles = poles
        poles.clear()
        board.poles.clear()
        self.assertEqual(board.poles, HELD.poles)
        with self.assertRaises(AttributeError):
            board.changes = 0

    def test_refused_changes(self):
        board = Board(FED)
        board.poles = POLES
        board.demands = DEMANDS
        board.undo()
        rows = [("demands", value, InvalidDemands, None) for value in [*STRANGE, {}, POLES, {**DEMANDS, "z": 0}]]
        rows += [("demands", {**DEMANDS, "b": None}, InvalidDemands, "b"), ("demands", {**DEMANDS, "b": 1}, Unbalanced, Amount(1))]
        rows += [("poles", value, InvalidPoles, None) for value in [*STRANGE, {}, list(POLES.items())]]
        rows += [("poles", {"a": 1, "z": 1}, InvalidPoles, "z"), ("poles", {"a": Hostile()}, InvalidPoles, "a")]
        for part, value, error, told in rows:
            for deed in (lambda: setattr(board, part, value), lambda: board.assign(part, value)):
                with self.assertRaises(error) as caught:
                    deed()
                self.assertIs(type(caught.exception), error)
                self.assertEqual(list(vars(caught.exception).values()), [told])
                self.assertEqual((board.scene, board.changes), (HELD, 1))
        board.undo()
        self.assertEqual(board.scene, FED)

    def test_assign(self):
        board = Board(FED)
        self.assertIsNone(board.assign("poles", POLES))
        self.assertEqual((board.scene, board.changes), (HELD, 1))
        board.assign(value=READ, part="scene")
        self.assertEqual((board.scene, board.changes), (READ, 2))
        board.assign("demands", DEMANDS)
        self.assertEqual((board.scene, board.changes), (FED, 3))
        for value in [*STRANGE, "Scene", "readings", "net", "changes", "scene ", "scenedemands", 1, ["scene"], ("scene",), {}]:
            with self.assertRaises(InvalidWord) as caught:
                board.assign(value, READ)
            self.assertIs(caught.exception.value, value)
        self.assertEqual((board.scene, board.changes), (FED, 3))

    def scenes(self, many):
        return [FedScene(NET, {"a": at, "b": 0, "c": 0, "d": -at}) for at in range(many)]

    def test_nothing_to_undo(self):
        board = Board(FED)
        for _ in range(2):
            with self.assertRaises(NothingToUndo) as caught:
                board.undo()
            self.assertEqual(vars(caught.exception), {})
        board.poles = POLES
        board.undo()
        with self.assertRaises(NothingToUndo):
            board.undo()
        self.assertEqual((board.scene, board.changes), (FED, 0))

    def test_twenty_changes_are_remembered(self):
        for many in (19, 20, 21, 25, 60):
            scenes = self.scenes(many + 1)
            board = Board(scenes[0])
            for at, scene in enumerate(scenes[1:], 1):
                board.scene = scene
                self.assertEqual(board.changes, min(at, 20))
            for back in range(1, min(many, 20) + 1):
                board.undo()
                self.assertEqual((board.scene, board.changes), (scenes[many - back], min(many, 20) - back))
            with self.assertRaises(NothingToUndo):
                board.undo()

    def test_changes_behind_an_undo(self):
        scenes = self.scenes(60)
        board = Board(scenes[0])
        for scene in scenes[1:22]:
            board.scene = scene
        for _ in range(3):
            board.undo()
        self.assertEqual((board.scene, board.changes), (scenes[18], 17))
        for scene in scenes[30:35]:
            board.scene = scene
        self.assertEqual(board.changes, 20)
        for scene in (33, 32, 31, 30, 18, 17):
            board.undo()
            self.assertEqual(board.scene, scenes[scene])


class Trials(unittest.TestCase):
    def setUp(self):
        self.board = Board(FED)
        self.board.poles = POLES
        self.board.scene = READ

    def unchanged(self):
        self.assertEqual((self.board.scene, self.board.changes), (READ, 2))
        seen = []
        with self.board.trial() as board:
            for _ in range(2):
                board.undo()
                seen.append(board.scene)
        self.assertEqual(seen, [HELD, FED])
        self.assertEqual((self.board.scene, self.board.changes), (READ, 2))

    def test_all_is_as_at_the_beginning(self):
        with self.board.trial() as board:
            self.assertIs(board, self.board)
            self.assertEqual(board.changes, 2)
            board.demands = DEMANDS
            self.assertEqual(board.changes, 3)
        self.unchanged()
        with self.board.trial():
            for _ in range(30):
                self.board.demands = DEMANDS
            self.assertEqual(self.board.changes, 20)
            for _ in range(20):
                self.board.undo()
        self.unchanged()

    def test_an_error_ends_the_statement(self):
        for error in (KeyError, KeyboardInterrupt, NothingToUndo):
            with self.assertRaises(error):
                with self.board.trial() as board:
                    board.undo()
                    board.demands = DEMANDS
                    raise error()
            self.unchanged()
        with self.assertRaises(InvalidLine):
            with self.board.trial() as board:
                board.undo()
                board.ask("x")
        self.unchanged()

    def test_trials_within_trials(self):
        with self.board.trial() as board:
            board.demands = DEMANDS
            with board.trial() as same, board.trial():
                same.undo()
                same.undo()
                self.assertEqual((board.scene, board.changes), (HELD, 1))
            self.assertEqual((board.scene, board.changes), (FED, 3))
            board.poles = {"b": 1}
        self.unchanged()

    def test_one_trial_several_times(self):
        trial = self.board.trial()
        self.board.undo()
        self.board.scene = READ
        for _ in range(2):
            with trial:
                self.board.demands = DEMANDS
                with trial as board:
                    board.undo()
                    board.undo()
                self.assertEqual((self.board.scene, self.board.changes), (FED, 3))
            self.unchanged()

    def test_tried_by(self):
        def deed(board):
            board.demands = DEMANDS
            return board.ask("range bc"), board.changes

        self.assertEqual(self.board.tried_by(deed), ("-2 2", 3))
        self.assertIs(self.board.tried_by(deed=lambda board: board), self.board)
        self.unchanged()

        def bad(board):
            board.undo()
            raise KeyError(board.changes)

        with self.assertRaises(KeyError) as caught:
            self.board.tried_by(bad)
        self.assertEqual(caught.exception.args, (1,))
        self.unchanged()
        self.assertEqual(self.board.tried_by(lambda board: board.tried_by(deed)), ("-2 2", 3))
        self.unchanged()

    def test_two_boards_do_not_know_of_one_another(self):
        other = Board(self.board.scene)
        with self.board.trial():
            other.demands = DEMANDS
            self.board.undo()
        self.assertEqual((other.changes, other.scene), (1, FED))
        self.unchanged()


if __name__ == "__main__":
    unittest.main()
