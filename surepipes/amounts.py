"""Amounts: exact fractions, and what counts as an INTEGER, a NAME and an amount."""

from math import gcd

from surepipes.errors import InvalidAmount, InvalidInteger, InvalidText

LETTERS = "abcdefghijklmnopqrstuvwxyz"
DIGITS = "0123456789"
LONGEST_NAME = 8
PART_LENGTH = 60
PART = 10 ** 60


def is_integer(value):
    """Whether any value is an INTEGER; True and False are none."""
    return isinstance(value, int) and not isinstance(value, bool)


def is_name(value):
    """Whether any value is a NAME."""
    return isinstance(value, str) and 1 <= len(value) <= LONGEST_NAME and all([letter in LETTERS for letter in value])


def is_amount(value):
    """Whether any value is an INTEGER or an Amount."""
    return is_integer(value) or isinstance(value, Amount)


def amount_of(value):
    """The Amount of an amount."""
    if isinstance(value, Amount):
        return value
    if is_integer(value):
        return Amount(value)
    raise InvalidAmount(value)


def _decimal(number):
    """The text of an INTEGER; written in parts, because Python refuses to write a very long number at once."""
    if number < 0:
        return f"-{_decimal(-number)}"
    parts = []
    while number >= PART:
        number, part = divmod(number, PART)
        parts.append(str(part).zfill(PART_LENGTH))
    parts.append(str(number))
    parts.reverse()
    return "".join(parts)


def _number(text):
    """The number that digits tell; read in parts, because Python refuses to read a very long number at once."""
    first = len(text) % PART_LENGTH
    number = int("0" + text[:first])
    for start in range(first, len(text), PART_LENGTH):
        number = number * PART + int(text[start:start + PART_LENGTH])
    return number


def _are_digits(text):
    return text != "" and all([letter in DIGITS for letter in text])


def _fraction(text):
    """The top and the bottom, as they stand in a text like `-3/2` or `7`; None if it has another form."""
    top, slash, bottom = text.partition("/")
    bare = top.removeprefix("-")
    if not _are_digits(bare):
        return None
    if slash != "" and not _are_digits(bottom):
        return None
    number = _number(bare)
    if bare != top:
        number = -number
    if slash == "":
        return (number, 1)
    return (number, _number(bottom))


class Amount:
    """An exact fraction in lowest terms, with a bottom of at least 1."""

    def __init__(self, top, bottom=1):
        if not is_integer(top):
            raise InvalidInteger(top)
        if not is_integer(bottom) or bottom == 0:
            raise InvalidInteger(bottom)
        divisor = gcd(top, bottom)
        if bottom < 0:
            divisor = -divisor
        self._top = top // divisor
        self._bottom = bottom // divisor

    @property
    def top(self):
        """The INTEGER above the line."""
        return self._top

    @property
    def bottom(self):
        """The INTEGER below the line, at least 1."""
        return self._bottom

    @property
    def sign(self):
        """-1, 0 or 1."""
        if self._top == 0:
            return 0
        return 1 if self._top > 0 else -1

    def __add__(self, other):
        if not is_amount(other):
            return NotImplemented
        right = amount_of(other)
        return Amount(self._top * right._bottom + right._top * self._bottom, self._bottom * right._bottom)

    def __radd__(self, other):
        if not is_amount(other):
            return NotImplemented
        return amount_of(other) + self

    def __sub__(self, other):
        if not is_amount(other):
            return NotImplemented
        right = amount_of(other)
        return Amount(self._top * right._bottom - right._top * self._bottom, self._bottom * right._bottom)

    def __rsub__(self, other):
        if not is_amount(other):
            return NotImplemented
        return amount_of(other) - self

    def __mul__(self, other):
        if not is_amount(other):
            return NotImplemented
        right = amount_of(other)
        return Amount(self._top * right._top, self._bottom * right._bottom)

    def __rmul__(self, other):
        if not is_amount(other):
            return NotImplemented
        return amount_of(other) * self

    def over(self, other):
        """The quotient by an amount that is not 0."""
        if not is_amount(other) or amount_of(other).sign == 0:
            raise InvalidAmount(other)
        right = amount_of(other)
        return Amount(self._top * right._bottom, self._bottom * right._top)

    def __neg__(self):
        return Amount(-self._top, self._bottom)

    def __abs__(self):
        return Amount(abs(self._top), self._bottom)

    def __bool__(self):
        return bool(self._top)

    def __eq__(self, other):
        return isinstance(other, Amount) and self._top == other._top and self._bottom == other._bottom

    def __lt__(self, other):
        if not isinstance(other, Amount):
            return NotImplemented
        return self._top * other._bottom < other._top * self._bottom

    def __le__(self, other):
        if not isinstance(other, Amount):
            return NotImplemented
        return self._top * other._bottom <= other._top * self._bottom

    def __gt__(self, other):
        if not isinstance(other, Amount):
            return NotImplemented
        return self._top * other._bottom > other._top * self._bottom

    def __ge__(self, other):
        if not isinstance(other, Amount):
            return NotImplemented
        return self._top * other._bottom >= other._top * self._bottom

    def __str__(self):
        if self._bottom == 1:
            return str(_decimal(self._top))
        return f"{_decimal(self._top)}/{_decimal(self._bottom)}"

    def __repr__(self):
        return f"Amount({_decimal(self._top)}, {_decimal(self._bottom)})"

    @classmethod
    def sum_of(cls, *amounts):
        """The sum of any number of amounts."""
        total = cls(0)
        for amount in amounts:
            total = total + amount_of(amount)
        return total

    @staticmethod
    def read(text):
        """The Amount with this text."""
        if not isinstance(text, str):
            raise InvalidText(1)
        fraction = _fraction(text)
        if fraction is None or fraction[1] == 0:
            raise InvalidText(1)
        amount = Amount(fraction[0], fraction[1])
        # A text with other signs has no fraction; one that is not exact, such as `-0` or `4/2`, is written differently.
        if str(amount) != text:
            raise InvalidText(1)
        return amount


def ascending(amounts):
    """Amounts of a list in ascending order, each once."""
    found = []
    for amount in amounts:
        at = 0
        while at < len(found) and found[at] < amount:
            at = at + 1
        if at == len(found) or found[at] != amount:
            found.insert(at, amount)
    return found
