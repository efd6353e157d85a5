"""Linear equations whose right sides are 0: a solution with numbers above 0, or weights that show that there is none.

All is reckoned with INTEGERS: in a table, all numbers have the same bottom, which stands beside it.
"""

from math import gcd


def _without_divisor(numbers):
    """Numbers with the same relations, without a common divisor greater than 1."""
    divisor = 0
    for number in numbers:
        divisor = gcd(divisor, number)
    if divisor == 0:
        return list(numbers)
    return [number // divisor for number in numbers]


class Table:
    """A simplex table. Numbers 1 + x, x being at least 0, are looked for that solve the equations.

    Each row has a slack of its own, too, which is at least 0: by how much it is not solved. It is asked how little all
    slacks can be together; if this is 0, the equations are solved. (Numbers above 0 that solve them can be multiplied
    until all are at least 1.)
    """

    def __init__(self, rows, many):
        self._many = many
        self._turns = [-1 if sum(row) > 0 else 1 for row in rows]
        self._rows = []
        for at, row in enumerate(rows):
            turned = [number * self._turns[at] for number in row]
            slacks = [1 if other == at else 0 for other in range(len(rows))]
            self._rows.append([*turned, *slacks, -sum(turned)])
        self._base = [many + at for at in range(len(rows))]
        self._bottom = 1
        goals = [-self._sum_in(column) for column in range(many)]
        slacks = [0 for _ in rows]
        self._goal = [*goals, *slacks, -self._sum_in(-1)]

    def _sum_in(self, column):
        return sum([row[column] for row in self._rows])

    def _entering(self):
        """The first column that makes the slacks less; None if none does."""
        for column in range(self._many):
            if self._goal[column] < 0:
                return column
        return None

    def _leaving(self, column):
        """The row that first comes to 0, if the number of a column grows; of several the one with the first number."""
        best = None
        for at, row in enumerate(self._rows):
            if row[column] > 0:
                if best is None:
                    best = at
                else:
                    other = self._rows[best]
                    less = row[-1] * other[column] - other[-1] * row[column]
                    if less < 0 or (less == 0 and self._base[at] < self._base[best]):
                        best = at
        return best

    def _changed(self, row, pivots, column):
        """A row behind a change of the base; all divisions are without a rest."""
        pivot = pivots[column]
        share = row[column]
        bottom = self._bottom
        return [(mine * pivot - share * theirs) // bottom for mine, theirs in zip(row, pivots)]

    def _change(self, at, column):
        pivots = self._rows[at]
        rows = [row if other == at else self._changed(row, pivots, column) for other, row in enumerate(self._rows)]
        self._goal = self._changed(self._goal, pivots, column)
        self._rows = rows
        self._bottom = pivots[column]
        self._base[at] = column

    def solve(self):
        """Brings the slacks as low as they can be. The first column enters always, so that no base comes again."""
        column = self._entering()
        while column is not None:
            self._change(self._leaving(column), column)
            column = self._entering()

    def solution(self):
        """The numbers above 0; None if there are none."""
        if self._goal[-1] != 0:
            return None
        found = [self._bottom for _ in range(self._many)]
        for at, column in enumerate(self._base):
            if column < self._many:
                found[column] = found[column] + self._rows[at][-1]
        return _without_divisor(found)

    def weights(self):
        """How often the rows are taken so that their sum is nowhere below 0, and somewhere above 0."""
        ends = self._goal[self._many:-1]
        return _without_divisor([(end - self._bottom) * turn for end, turn in zip(ends, self._turns)])


def solved(rows, many):
    """A tuple of numbers above 0 that solve equations, or None, and of weights if there are none, else None.

    There are so many numbers; a row tells how often each of them stands in an equation.
    """
    table = Table(rows, many)
    table.solve()
    found = table.solution()
    if found is None:
        return (None, table.weights())
    return (found, None)
