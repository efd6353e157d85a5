"""surepipes/curves.py: the class Curve."""

import unittest
from fractions import Fraction

from surepipes.amounts import Amount
from surepipes.curves import Curve
from surepipes.errors import InvalidAmount, InvalidPoints, TooMany

# Each row: the points as passed.
SHAPES = [
    [(1, 1)],
    [(-1, -1)],
    [(2, 1), (3, 5)],
    [(0, 0), (2, 1), (3, 5)],
    [(-3, -1), (-1, Amount(-1, 2))],
    [(-3, -1), (-1, Amount(-1, 2)), (0, 0)],
    [(-2, -4), (-1, -1), (1, 1), (2, 4)],
    [(-2, -4), (-1, -1), (0, 0), (1, 1), (2, 4)],
    [(-1, -3), (2, 1)],
    [(-1, -3), (0, 0), (2, 1)],
    [(Amount(1, 3), Amount(1, 7)), (Amount(1, 2), 5), (Amount(7, 3), Amount(11, 2))],
    [(-2, -1), (1, 2), (2, 3), (3, 7)],
]
FLOWS = sorted({Fraction(top, bottom) for top in range(-13, 14) for bottom in (1, 2, 3)})
WRONG = [True, False, None, "", "1", [], [1], (), (1,), {}, object()]


def fraction_of(value):
    return Fraction(value) if isinstance(value, int) else Fraction(value.top, value.bottom)


def amount(fraction):
    return Amount(fraction.numerator, fraction.denominator)


def line(points, at, known=0):
    """The other coordinate of a line, reckoned as the document tells it."""
    rows = [(fraction_of(point[0]), fraction_of(point[1])) for point in points]
    rows = sorted({*rows, (Fraction(0), Fraction(0))})
    if known == 1:
        rows = [(drop, flow) for flow, drop in rows]
    pieces = [(low, high) for low, high in zip(rows, rows[1:]) if low[0] <= at <= high[0]]
    if not pieces:
        pieces = [(rows[0], rows[1])] if at < rows[0][0] else [(rows[-2], rows[-1])]
    (left, bottom), (right, top) = pieces[0]
    return bottom + (top - bottom) * (at - left) / (right - left)


class Values(unittest.TestCase):
    def test_drops(self):
        for points in SHAPES:
            curve = Curve(points)
            for flow in FLOWS:
                found = curve(amount(flow))
                self.assertIs(type(found), Amount)
                self.assertEqual(fraction_of(found), line(points, flow), (points, flow))

    def test_flows(self):
        for points in SHAPES:
            curve = Curve(points)
            for drop in FLOWS:
                found = curve.back(amount(drop))
                self.assertIs(type(found), Amount)
                self.assertEqual(fraction_of(found), line(points, drop, 1), (points, drop))

    def test_each_undoes_the_other(self):
        for points in SHAPES:
            curve = Curve(points)
            for value in [amount(flow) for flow in FLOWS]:
                self.assertEqual(curve.back(curve(value)), value)
                self.assertEqual(curve(curve.back(value)), value)

    def test_told_values(self):
        bent = Curve([(1, 1), (2, 4)])
        self.assertEqual([bent(0), bent(1), bent(2)], [Amount(0), Amount(1), Amount(4)])
        self.assertEqual([bent(Amount(1, 2)), bent(Amount(3, 2))], [Amount(1, 2), Amount(5, 2)])
        self.assertEqual([bent(3), bent(12), bent(-1), bent(-7)], [Amount(7), Amount(34), Amount(-1), Amount(-7)])
        both = Curve([(-2, -10), (-1, -1), (1, 1), (2, 4)])
        self.assertEqual([both(-1), both(-2), both(-3)], [Amount(-1), Amount(-10), Amount(-19)])
        below = Curve([(-2, -1), (-1, Amount(-3, 4))])
        self.assertEqual([below(4), below(-6), below(Amount(-1, 2))], [Amount(3), Amount(-2), Amount(-3, 8)])
        self.assertEqual([bent.back(0), bent.back(4), bent.back(34)], [Amount(0), Amount(2), Amount(12)])

    def test_big_numbers(self):
        big, small = 10 ** 20 - 1, Amount(1, 10 ** 10 - 1)
        curve = Curve([(small, big), (big, big + 1)])
        self.assertEqual([curve(small), curve(big), curve.back(big)], [Amount(big), Amount(big + 1), small])
        self.assertEqual(curve.back(curve(big + 5)), Amount(big + 5))
        self.assertEqual(curve(curve.back(-big)), Amount(-big))

    def test_by_the_names_of_the_parameters(self):
        self.assertEqual(Curve(points=[(2, 1)])(flow=4), Amount(2))
        self.assertEqual(Curve([(2, 1)]).back(drop=4), Amount(8))
        self.assertEqual(Curve.straight(conductance=2)(4), Amount(2))

    def test_what_is_no_amount(self):
        for value in WRONG:
            for told in (Curve([(1, 1)]), Curve([(1, 1)]).back):
                with self.assertRaises(InvalidAmount) as caught:
                    told(value)
                self.assertIs(caught.exception.value, value)


class Points(unittest.TestCase):
    def test_with_the_origin(self):
        for points in SHAPES:
            wanted = sorted({*[(fraction_of(flow), fraction_of(drop)) for flow, drop in points], (0, 0)})
            found = Curve(points).points()
            self.assertIs(type(found), list)
            for point in found:
                self.assertEqual([type(point), type(point[0]), type(point[1])], [tuple, Amount, Amount])
            self.assertEqual([(fraction_of(flow), fraction_of(drop)) for flow, drop in found], wanted)

    def test_points_that_are_no_corners_are_kept(self):
        found = Curve([(1, 1), (2, 2), (3, 3)]).points()
        self.assertEqual([str(flow) for flow, _ in found], ["0", "1", "2", "3"])

    def test_a_tuple_is_accepted_as_the_list(self):
        self.assertEqual(Curve(((1, 1), (2, 4))), Curve([(1, 1), (2, 4)]))

    def test_the_points_are_copied_and_the_returned_lists_are_new(self):
        given = [(1, 1), (2, 4)]
        curve = Curve(given)
        self.assertEqual(given, [(1, 1), (2, 4)])
        given.append((3, 100))
        curve.points().clear()
        curve.points().append((Amount(9), Amount(9)))
        curve.corners().append(Amount(9))
        self.assertEqual([len(curve.points()), len(curve.corners()), curve(3)], [3, 1, Amount(7)])
        self.assertEqual([str(flow) for flow in curve.corners()], ["1"])

    def test_eighty_points(self):
        rows = [(flow, flow * flow) for flow in range(1, 81)]
        self.assertEqual(len(Curve(rows).points()), 81)
        self.assertEqual(len(Curve([(0, 0), *rows[:79]]).points()), 80)
        for given in (rows + [(81, 81 * 81)], [(0, 0), *rows], tuple([(0, 0), *rows])):
            with self.assertRaises(TooMany) as caught:
                Curve(given)
            self.assertEqual((caught.exception.what, caught.exception.limit), ("points", 80))

    def test_too_many_only_when_no_element_is_wrong(self):
        rows = [(flow, flow) for flow in range(1, 100)]
        for position in (0, 50, 79, 80, 98):
            wrong = [*rows[:position], (1, True), *rows[position + 1:]]
            with self.assertRaises(InvalidPoints) as caught:
                Curve(wrong)
            self.assertEqual(caught.exception.position, position)
        with self.assertRaises(InvalidPoints) as caught:
            Curve([(0, 0)] * 100)
        self.assertIsNone(caught.exception.position)


class WrongPoints(unittest.TestCase):
    def position(self, points):
        with self.assertRaises(InvalidPoints, msg=repr(points)) as caught:
            Curve(points)
        return caught.exception.position

    def test_no_list(self):
        for value in [True, False, None, 0, 1, "", "ab", {}, {1: 1}, {(1, 1)}, object(), Amount(1), Curve([(1, 1)]),
                      range(3), iter([(1, 1)]), b"ab"]:
            self.assertIsNone(self.position(value))

    def test_nothing_but_the_origin(self):
        for value in ([], (), [(0, 0)], ((0, 0),), [(0, 0), (0, 0)], [(0, Amount(0))], [(Amount(0), Amount(0, 3))] * 3):
            self.assertIsNone(self.position(value))

    def test_no_tuples_of_two_amounts(self):
        for wrong in [True, False, None, 5, "ab", [1, 1], [0, 0], {}, (), (1,), (1, 1, 1), (1, None), (None, 1),
                      (1, "1"), (True, True), (True, 1), (1, True), (False, False), (0, False), (False, 0),
                      (1, (1,)), Amount(1), ((1, 1),)]:
            self.assertEqual(self.position([wrong]), 0)
            self.assertEqual(self.position([(-1, -1), wrong]), 1)
            self.assertEqual(self.position([(-2, -2), (0, 0), wrong, (7, 7)]), 2)
            self.assertEqual(self.position([wrong, wrong]), 0)
            self.assertEqual(self.position((wrong, (0, 0))), 0)

    def test_different_signs(self):
        for wrong in [(1, -1), (-1, 1), (0, 1), (1, 0), (0, -1), (-1, 0), (Amount(1, 2), Amount(-1, 2)),
                      (0, Amount(1, 2))]:
            self.assertEqual(self.position([wrong]), 0)
            self.assertEqual(self.position([(-5, -5), wrong]), 1)

    def test_not_greater_in_both(self):
        for ahead, wrong in [((1, 1), (1, 1)), ((1, 1), (2, 1)), ((1, 1), (1, 2)), ((2, 2), (1, 3)), ((2, 2), (3, 1)),
                             ((2, 2), (1, 1)), ((1, 1), (0, 0)), ((1, 1), (-1, -1)), ((0, 0), (-1, -1)),
                             ((-1, -1), (-1, -1)), ((-1, -1), (-2, -2)), ((-2, -1), (-1, -1)), ((-1, -2), (-1, -1)),
                             ((Amount(1, 2), 1), (Amount(2, 4), 2))]:
            self.assertEqual(self.position([ahead, wrong]), 1)
            self.assertEqual(self.position([(-9, -9), ahead, wrong, (100, 100)]), 2)
            self.assertEqual(self.position([ahead, wrong, "later"]), 1)
        self.assertEqual(self.position([(-1, -1), (0, 0), (0, 0)]), 2)
        self.assertEqual(self.position([(0, 0), (0, 0), (1, 1)]), 1)
        self.assertEqual(self.position([(0, 0), (0, 0), "later"]), 1)

    def test_the_first_wrong_element_decides(self):
        self.assertEqual(self.position([(1, 1), (1, 1), None]), 1)
        self.assertEqual(self.position([(1, 1), None, (1, 1)]), 1)
        self.assertEqual(self.position([(0, 0), None]), 1)


class Forms(unittest.TestCase):
    def corners(self, points):
        return [str(flow) for flow in Curve(points).corners()]

    def test_corners(self):
        self.assertEqual(self.corners([(1, 1)]), [])
        self.assertEqual(self.corners([(1, 1), (2, 4)]), ["1"])
        self.assertEqual(self.corners([(1, 1), (2, 2), (3, 3)]), [])
        self.assertEqual(self.corners([(1, 1), (2, 2), (3, 4), (4, 6)]), ["2"])
        self.assertEqual(self.corners([(-2, -4), (-1, -1), (1, 1), (2, 4)]), ["-1", "1"])
        self.assertEqual(self.corners([(-1, -3), (2, 1)]), ["0"])
        self.assertEqual(self.corners([(-1, -3), (Amount(1, 2), 1), (2, 3)]), ["0", "1/2"])
        self.assertEqual(self.corners([(-3, -1), (-1, Amount(-1, 2))]), ["-1"])
        self.assertEqual(self.corners([(-2, -2), (-1, -1), (0, 0), (5, 5)]), [])
        for flow in Curve([(1, 1), (2, 4)]).corners():
            self.assertIs(type(flow), Amount)

    def test_is_straight(self):
        for points in SHAPES:
            self.assertIs(Curve(points).is_straight, Curve(points).corners() == [])
        self.assertIs(Curve([(-2, -1), (2, 1), (4, 2)]).is_straight, True)
        self.assertIs(Curve([(-2, -1), (2, 2)]).is_straight, False)

    def test_conductance(self):
        for points, wanted in [([(1, 1)], "1"), ([(-3, -2)], "3/2"), ([(2, 1), (4, 2)], "2"),
                               ([(-2, -6), (1, 3)], "1/3")]:
            found = Curve(points).conductance
            self.assertIs(type(found), Amount)
            self.assertEqual(str(found), wanted)
        for points in ([(1, 1), (2, 4)], [(-1, -3), (2, 1)]):
            self.assertIsNone(Curve(points).conductance)

    def test_straight(self):
        for conductance in (1, 7, Amount(1, 3), Amount(9, 2), 10 ** 20 - 1):
            curve = Curve.straight(conductance)
            self.assertIs(curve.is_straight, True)
            self.assertEqual(curve.conductance, Amount(1) * conductance)
            self.assertEqual([curve(conductance), curve(-3 * conductance)], [Amount(1), Amount(-3)])

    def test_straight_by_what_is_no_amount_above_0(self):
        zero, below = Amount(0), Amount(-1, 2)
        for value in [*WRONG, 0, -1, zero, below]:
            with self.assertRaises(InvalidAmount) as caught:
                Curve.straight(value)
            self.assertIs(caught.exception.value, value)

    def test_properties_cannot_be_assigned(self):
        for name in ("is_straight", "conductance"):
            with self.assertRaises(AttributeError):
                setattr(Curve([(1, 1)]), name, 1)


class Joining(unittest.TestCase):
    def test_turned(self):
        for points in SHAPES:
            turned = Curve(points).turned()
            self.assertIs(type(turned), Curve)
            for flow in FLOWS:
                self.assertEqual(fraction_of(turned(amount(flow))), -line(points, -flow))
                self.assertEqual(fraction_of(turned.back(amount(flow))), -line(points, -flow, 1))
            self.assertEqual(turned.corners(), [-flow for flow in Curve(points).corners()[::-1]])
            self.assertEqual(turned.turned(), Curve(points))

    def test_sum(self):
        for one in SHAPES:
            for other in SHAPES:
                left, right = Curve(one), Curve(other)
                joined = left + right
                self.assertIs(type(joined), Curve)
                for flow in FLOWS[::5]:
                    wanted = line(one, flow) + line(other, flow)
                    self.assertEqual(fraction_of(joined(amount(flow))), wanted)
                    self.assertEqual(fraction_of(joined.back(amount(wanted))), flow)
                self.assertEqual(joined, right + left)
                self.assertEqual([left, right], [Curve(one), Curve(other)])

    def test_side_by_side(self):
        for one in SHAPES:
            for other in SHAPES:
                left, right = Curve(one), Curve(other)
                joined = left | right
                self.assertIs(type(joined), Curve)
                for drop in FLOWS[::5]:
                    wanted = line(one, drop, 1) + line(other, drop, 1)
                    self.assertEqual(fraction_of(joined.back(amount(drop))), wanted)
                    self.assertEqual(fraction_of(joined(amount(wanted))), drop)
                self.assertEqual(joined, right | left)

    def test_joined_points_are_those_of_the_line(self):
        bent, other = Curve([(1, 1), (2, 4)]), Curve([(-1, -1), (1, 5), (3, 6)])
        for joined in (bent + other, bent | other, bent.turned()):
            points = joined.points()
            self.assertTrue(any([(str(flow), str(drop)) == ("0", "0") for flow, drop in points]))
            for low, high in zip(points, points[1:]):
                self.assertTrue(low[0] < high[0] and low[1] < high[1])
            self.assertEqual(Curve(points), joined)

    def test_straight_curves(self):
        one, other = Curve.straight(2), Curve.straight(3)
        self.assertEqual((one + other).conductance, Amount(6, 5))
        self.assertEqual((one | other).conductance, Amount(5))

    def test_joined_with_more_than_eighty_points(self):
        odd = [(flow, flow * flow) for flow in range(1, 160, 2)]
        even = [(flow, flow * flow * 2) for flow in range(2, 162, 2)]
        one, other = Curve(odd), Curve(even)
        joined = one + other
        self.assertEqual(len(joined.corners()), 158)
        self.assertGreater(len(joined.points()), 80)
        for flow in (-5, 0, 1, 2, 77, 78, 159, 160, 161, 1000):
            self.assertEqual(joined(flow), one(flow) + other(flow))
            self.assertEqual(joined.back(joined(flow)), Amount(flow))
        beside = one | other
        self.assertGreater(len(beside.points()), 80)
        for drop in (-5, 0, 1, 8, 9, 25281, 51200, 51201, 10 ** 6):
            self.assertEqual(beside.back(drop), one.back(drop) + other.back(drop))
        again = joined.turned() + joined.turned()
        self.assertEqual(again(-160), -(joined(160) * 2))
        self.assertGreater(len(again.points()), 80)

    def test_other_values_are_not_joined(self):
        for value in [*WRONG, 1, Amount(1)]:
            for join in (lambda: Curve([(1, 1)]) + value, lambda: value + Curve([(1, 1)]),
                         lambda: Curve([(1, 1)]) | value, lambda: value | Curve([(1, 1)])):
                with self.assertRaises(TypeError):
                    join()


class Equality(unittest.TestCase):
    def test_equal_lines_by_other_points(self):
        for one, other in [([(1, 1)], [(-7, -7)]), ([(1, 1)], [(-2, -2), (0, 0), (3, 3), (5, 5)]),
                           ([(1, 1), (2, 4)], [(0, 0), (1, 1), (3, 7)]),
                           ([(1, 1), (2, 4)], [(-5, -5), (Amount(1, 2), Amount(1, 2)), (1, 1), (2, 4), (9, 25)]),
                           ([(-1, -3), (2, 1)], [(-2, -6), (4, 2)])]:
            self.assertIs(Curve(one) == Curve(other), True)
            self.assertIs(Curve(other) == Curve(one), True)
            self.assertIs(Curve(one) != Curve(other), False)

    def test_different_lines(self):
        different = [[(1, 1)], [(1, 2)], [(1, 1), (2, 4)], [(1, 1), (2, 5)], [(2, 2), (3, 5)], [(-1, -1), (2, 4)],
                     [(-2, -4), (-1, -1)], [(-2, -4), (-1, -1), (1, 1), (2, 4)], [(-2, -5), (-1, -1), (1, 1), (2, 4)],
                     [(-1, -2), (1, 1), (2, 4)], [(1, 1), (2, 4), (3, 8)]]
        for place, one in enumerate(different):
            for other_place, other in enumerate(different):
                self.assertIs(Curve(one) == Curve(other), place == other_place)

    def test_not_equal_to_values_of_another_kind(self):
        for value in [*WRONG, 1, Amount(1), [(1, 1)]]:
            self.assertIs(Curve([(1, 1)]) == value, False)
            self.assertIs(value == Curve([(1, 1)]), False)

    def test_joined_curves(self):
        bent = Curve([(1, 1), (2, 4)])
        self.assertEqual(bent + bent, Curve([(1, 2), (2, 8)]))
        self.assertEqual(bent | bent, Curve([(2, 1), (4, 4)]))
        self.assertEqual(bent + Curve([(1, 4), (2, 5)]), Curve([(-1, -5), (0, 0), (1, 5), (2, 9)]))
        other = Curve([(-1, -4), (1, 4), (2, 5)])
        self.assertEqual(bent + other, Curve([(1, 5), (2, 9)]))
        self.assertEqual((bent | other).back(8), Amount(25, 3))


if __name__ == "__main__":
    unittest.main()
