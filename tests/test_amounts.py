"""surepipes/amounts.py: INTEGERs, NAMES, amounts, and the class Amount."""

import unittest
from fractions import Fraction

from surepipes.amounts import Amount, amount_of, is_amount, is_integer, is_name
from surepipes.errors import InvalidAmount, InvalidInteger, InvalidText

FRACTIONS = sorted({Fraction(top, bottom) for top in range(-6, 7) for bottom in range(1, 6)})
WRONG = [True, False, None, "", "1", b"1", [], [1], (), (1,), {}, {1: 1}, set(), object(), int, Fraction(1, 2)]
BIG = 99999999999999999999
BIG_BOTTOM = 9999999999


def amount(fraction):
    return Amount(fraction.numerator, fraction.denominator)


def fraction_of(value):
    return Fraction(value.top, value.bottom)


class Hostile:
    """Says that it is equal to everything, and cannot be shown or hashed."""

    __hash__ = None

    def __eq__(self, other):
        return True

    def __repr__(self):
        raise AssertionError("not to be shown")


class Kinds(unittest.TestCase):
    def test_integers(self):
        for value in (0, 1, -1, BIG, -BIG):
            self.assertIs(is_integer(value), True)
        for value in [*WRONG, Hostile(), Amount(1)]:
            self.assertIs(is_integer(value), False)
        self.assertIs(is_integer(value=3), True)

    def test_names(self):
        for value in ("a", "z", "ab", "az", "mmmmmmmm", "if"):
            self.assertIs(is_name(value), True, value)
        for value in ["", "aaaaaaaaa", "A", "aB", "a1", "1", "a b", " a", "a ", "a-b", "a_", "`", "{", "a\n", 1,
                      ("a",), ["a"], *WRONG, Hostile()]:
            self.assertIs(is_name(value), False, repr(value) if not isinstance(value, Hostile) else "")
        self.assertIs(is_name(value="a"), True)

    def test_amounts(self):
        for value in (0, 1, -1, BIG, Amount(0), Amount(1, 2)):
            self.assertIs(is_amount(value), True)
        for value in [*WRONG, Hostile()]:
            self.assertIs(is_amount(value), False)
        self.assertIs(is_amount(value=3), True)

    def test_amount_of(self):
        for value in (0, 5, -7, BIG):
            found = amount_of(value)
            self.assertIsInstance(found, Amount)
            self.assertEqual((found.top, found.bottom), (value, 1))
        self.assertEqual(amount_of(Amount(3, 4)), Amount(3, 4))
        self.assertEqual(amount_of(value=2), Amount(2))

    def test_amount_of_what_is_none(self):
        for value in [*WRONG, Hostile()]:
            with self.assertRaises(InvalidAmount) as caught:
                amount_of(value)
            self.assertIs(caught.exception.value, value)


class Making(unittest.TestCase):
    def test_lowest_terms_and_sign(self):
        for top in range(-12, 13):
            for bottom in [*range(-12, 0), *range(1, 13)]:
                found, right = Amount(top, bottom), Fraction(top, bottom)
                self.assertEqual((found.top, found.bottom), (right.numerator, right.denominator))
                self.assertEqual(found.sign, (right > 0) - (right < 0))
                for part in (found.top, found.bottom, found.sign):
                    self.assertIs(type(part), int)

    def test_the_bottom_is_1_if_it_is_left_out(self):
        self.assertEqual((Amount(5).top, Amount(5).bottom), (5, 1))
        self.assertEqual((Amount(0).top, Amount(0).bottom, Amount(0).sign), (0, 1, 0))
        self.assertEqual((Amount(0, -9).top, Amount(0, -9).bottom), (0, 1))

    def test_by_the_names_of_the_parameters(self):
        self.assertEqual(Amount(top=6, bottom=-4), Amount(-3, 2))
        self.assertEqual(Amount(bottom=4, top=6), Amount(3, 2))
        self.assertEqual(Amount(top=6), Amount(6))

    def test_twenty_digits_over_ten(self):
        for top in (BIG, -BIG, BIG - 1, 10 ** 19, -(2 ** 64)):
            for bottom in (BIG_BOTTOM, -BIG_BOTTOM, 10 ** 9, 2 ** 33, -3):
                found, right = Amount(top, bottom), Fraction(top, bottom)
                self.assertEqual((found.top, found.bottom), (right.numerator, right.denominator))
                self.assertEqual(found.sign, 1 if right > 0 else -1)
        found = Amount(BIG, -BIG_BOTTOM)
        self.assertEqual((found.top, found.bottom, found.sign), (-10000000001, 1, -1))

    def test_no_integer(self):
        for value in [*WRONG, Hostile(), Amount(1)]:
            for made in (lambda: Amount(value), lambda: Amount(value, 2), lambda: Amount(1, value),
                         lambda: Amount(top=1, bottom=value)):
                with self.assertRaises(InvalidInteger) as caught:
                    made()
                self.assertIs(caught.exception.value, value)

    def test_a_bottom_of_0_and_which_error_comes_first(self):
        for top in (0, 1, -5):
            with self.assertRaises(InvalidInteger) as caught:
                Amount(top, 0)
            self.assertEqual(caught.exception.value, 0)
            self.assertIs(type(caught.exception.value), int)
        with self.assertRaises(InvalidInteger) as caught:
            Amount("x", 0)
        self.assertEqual(caught.exception.value, "x")
        with self.assertRaises(InvalidInteger) as caught:
            Amount(True, "y")
        self.assertIs(caught.exception.value, True)
        with self.assertRaises(InvalidInteger) as caught:
            Amount(1, False)
        self.assertIs(caught.exception.value, False)

    def test_parts_cannot_be_assigned(self):
        for name in ("top", "bottom", "sign"):
            with self.assertRaises(AttributeError):
                setattr(Amount(1, 2), name, 5)


class Reckoning(unittest.TestCase):
    def test_two_amounts(self):
        for one in FRACTIONS:
            for other in FRACTIONS:
                left, right = amount(one), amount(other)
                for found, wanted in [(left + right, one + other), (left - right, one - other),
                                      (left * right, one * other)]:
                    self.assertIs(type(found), Amount)
                    self.assertEqual((found.top, found.bottom), (wanted.numerator, wanted.denominator))
                if other != 0:
                    self.assertEqual(fraction_of(left.over(right)), one / other)
                self.assertEqual((fraction_of(left), fraction_of(right)), (one, other))

    def test_an_integer_on_either_side(self):
        for one in FRACTIONS:
            for other in range(-3, 4):
                left = amount(one)
                for found, wanted in [(left + other, one + other), (other + left, one + other),
                                      (left - other, one - other), (other - left, other - one),
                                      (left * other, one * other), (other * left, one * other)]:
                    self.assertIs(type(found), Amount)
                    self.assertEqual(fraction_of(found), wanted)
                if other != 0:
                    self.assertEqual(fraction_of(left.over(other)), one / other)

    def test_by_the_name_of_the_parameter(self):
        self.assertEqual(Amount(3).over(other=2), Amount(3, 2))

    def test_one_amount(self):
        for one in FRACTIONS:
            found = amount(one)
            self.assertEqual(fraction_of(-found), -one)
            self.assertEqual(fraction_of(abs(found)), abs(one))
            self.assertIs(bool(found), one != 0)
            for made in (-found, abs(found)):
                self.assertIs(type(made), Amount)

    def test_other_values_are_not_used(self):
        for value in [*WRONG, object()]:
            if isinstance(value, Fraction):
                continue
            for reckon in (lambda: Amount(2) + value, lambda: value + Amount(2), lambda: Amount(2) - value,
                           lambda: value - Amount(2), lambda: Amount(2) * value, lambda: value * Amount(2)):
                with self.assertRaises(TypeError):
                    reckon()

    def test_over_what_is_no_divisor(self):
        zero = Amount(0, 5)
        for value in [*WRONG, Hostile(), 0, zero]:
            with self.assertRaises(InvalidAmount) as caught:
                Amount(1, 2).over(value)
            self.assertIs(caught.exception.value, value)

    def test_sum_of(self):
        self.assertEqual(Amount.sum_of(), Amount(0))
        self.assertIs(type(Amount.sum_of()), Amount)
        self.assertEqual(Amount.sum_of(3), Amount(3))
        self.assertIs(type(Amount.sum_of(3)), Amount)
        self.assertEqual(Amount.sum_of(1, Amount(1, 2), -2, Amount(1, 3)), Amount(-1, 6))
        many = [Amount(top, 7) for top in range(300)]
        self.assertEqual(Amount.sum_of(*many), Amount(sum(range(300)), 7))
        self.assertEqual(Amount(9).sum_of(1, 2), Amount(3))

    def test_sum_of_what_is_no_amount(self):
        for value in [*WRONG, Hostile()]:
            for given in ([value], [1, value], [value, "later"], [Amount(1, 2), 3, value, True]):
                with self.assertRaises(InvalidAmount) as caught:
                    Amount.sum_of(*given)
                self.assertIs(caught.exception.value, value)

    def test_builtin_sum(self):
        found = sum([Amount(1, 2), Amount(1, 3), 2])
        self.assertEqual((type(found), found), (Amount, Amount(17, 6)))
        self.assertEqual(sum([], Amount(1, 2)), Amount(1, 2))

    def test_big_numbers(self):
        one, other = Amount(BIG, BIG_BOTTOM - 1), Amount(-BIG, BIG_BOTTOM - 2)
        left, right = fraction_of(one), fraction_of(other)
        for found, wanted in [(one + other, left + right), (one - other, left - right), (one * other, left * right),
                              (one.over(other), left / right)]:
            self.assertEqual((found.top, found.bottom), (wanted.numerator, wanted.denominator))


class Comparing(unittest.TestCase):
    def test_orders(self):
        for one in FRACTIONS:
            for other in FRACTIONS:
                left, right = amount(one), amount(other)
                self.assertIs(left < right, one < other)
                self.assertIs(left <= right, one <= other)
                self.assertIs(left > right, one > other)
                self.assertIs(left >= right, one >= other)
                self.assertIs(left == right, one == other)
                self.assertIs(left != right, one != other)

    def test_near_big_numbers(self):
        self.assertTrue(Amount(BIG - 1, BIG_BOTTOM) < Amount(BIG, BIG_BOTTOM))
        self.assertFalse(Amount(BIG, BIG_BOTTOM) < Amount(BIG, BIG_BOTTOM))
        self.assertTrue(Amount(1, BIG_BOTTOM) < Amount(1, BIG_BOTTOM - 1))

    def test_not_equal_to_values_of_another_kind(self):
        for value in [2, "2", (2, 1), [2], None, True, Fraction(2), object()]:
            self.assertIs(Amount(2) == value, False)
            self.assertIs(value == Amount(2), False)
            self.assertIs(Amount(2) != value, True)
        self.assertFalse(Amount(1) == True)  # noqa: E712
        self.assertFalse(Amount(0) == False)  # noqa: E712
        self.assertEqual(Amount(2), Amount(4, 2))

    def test_orders_only_between_amounts(self):
        for value in (2, True, None, "2"):
            for compare in (lambda: Amount(1) < value, lambda: Amount(1) <= value, lambda: Amount(1) > value,
                            lambda: Amount(1) >= value):
                with self.assertRaises(TypeError):
                    compare()


class Texts(unittest.TestCase):
    RIGHT = {"0": (0, 1), "7": (7, 1), "-7": (-7, 1), "10": (10, 1), "-3/2": (-3, 2), "3/2": (3, 2), "1/10": (1, 10),
             "99999999999999999999": (BIG, 1), "-99999999999999999998/9999999997": (-99999999999999999998, 9999999997)}

    def test_str_and_repr(self):
        for text, (top, bottom) in self.RIGHT.items():
            self.assertEqual(str(Amount(top, bottom)), text)
            self.assertEqual(repr(Amount(top, bottom)), f"Amount({top}, {bottom})")
        self.assertEqual([str(Amount(6, -4)), repr(Amount(6, -4))], ["-3/2", "Amount(-3, 2)"])
        self.assertEqual([str(Amount(0, 3)), repr(Amount(0, 3))], ["0", "Amount(0, 1)"])
        self.assertEqual(repr(Amount(5)), "Amount(5, 1)")

    def test_read(self):
        for text, (top, bottom) in self.RIGHT.items():
            found = Amount.read(text)
            self.assertIs(type(found), Amount)
            self.assertEqual((found.top, found.bottom), (top, bottom))
        self.assertEqual(Amount.read(text="5/3"), Amount(5, 3))
        self.assertEqual(Amount(1).read("5/3"), Amount(5, 3))

    def test_read_what_was_written(self):
        for one in FRACTIONS:
            self.assertEqual(fraction_of(Amount.read(str(amount(one)))), one)

    def test_read_what_is_nearly_right(self):
        for text in ["", " ", "+1", "01", "00", "-0", "-01", "--1", "-", "/", "1/", "/2", "-/2", "2/1", "4/2", "-4/2",
                     "1/0", "0/1", "0/2", "0/0", "-0/3", "1/02", "01/2", "1/-2", "1/+2", "-1/-2", "1/2/3", "1//2",
                     " 1", "1 ", "1\n", "\n1", "1 /2", "1/ 2", "- 1", "1_0", "1.0", "1e3", "0x1", "a", "1a", "1,0",
                     "\t1", "1/1", "--0", "(1)", "7/7", "\u0661", "\u00b2", "1/\u0662"]:
            with self.assertRaises(InvalidText, msg=repr(text)) as caught:
                Amount.read(text)
            self.assertEqual(caught.exception.line, 1)

    def test_read_what_is_no_string(self):
        for value in [*[value for value in WRONG if not isinstance(value, str)], Hostile(), 1, 7, Amount(7), b"7"]:
            with self.assertRaises(InvalidText) as caught:
                Amount.read(value)
            self.assertEqual(caught.exception.line, 1)

    def test_numbers_of_more_digits_than_python_writes_at_once(self):
        number = 1
        for _ in range(100):
            number = number * 10 ** 60
        long = Amount(number) + 7
        text = "1" + "0" * 5999 + "7"
        self.assertEqual(str(long), text)
        self.assertEqual(str(-long), "-" + text)
        self.assertEqual(repr(Amount(1).over(long)), f"Amount(1, {text})")
        self.assertEqual(Amount.read(text), long)
        self.assertEqual(Amount.read("-1/" + text), Amount(-1).over(long))
        for digits in (59, 60, 61, 119, 120, 121):
            text = "123456789" * 14
            self.assertEqual(str(Amount.read(text[:digits])), text[:digits])
            self.assertEqual(str(Amount(int(text[:digits]))), text[:digits])


if __name__ == "__main__":
    unittest.main()
