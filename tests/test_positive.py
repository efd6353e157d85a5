"""surepipes/positive.py: numbers above 0 that solve equations, or weights that show that there are none."""

import unittest

from plain import chance
from surepipes.positive import solved


class Solved(unittest.TestCase):
    def check(self, rows, many):
        """Either right numbers or right weights: never both can be."""
        numbers, weights = solved(rows, many)
        self.assertEqual(numbers is None, weights is not None, rows)
        if numbers is not None:
            self.assertEqual(len(numbers), many)
            self.assertTrue(all(type(number) is int and number > 0 for number in numbers))
            self.assertEqual([sum(a * b for a, b in zip(row, numbers)) for row in rows], [0] * len(rows))
            return True
        self.assertEqual(len(weights), len(rows))
        sums = [sum(weight * row[column] for weight, row in zip(weights, rows)) for column in range(many)]
        self.assertTrue(all(total >= 0 for total in sums) and any(sums), rows)
        return False

    def test_rows_made_by_chance(self):
        rng = chance(170)
        seen = {True: 0, False: 0}
        for _ in range(1500):
            many = rng.randrange(1, 8)
            rows = [[rng.choice([-2, -1, -1, 0, 0, 0, 1, 1, 2]) for _ in range(many)] for _ in range(rng.randrange(5))]
            seen[self.check(rows, many)] += 1
        self.assertGreater(min(seen.values()), 300)

    def test_rows_that_have_a_solution(self):
        rng = chance(171)
        for _ in range(300):
            many = rng.randrange(3, 20)
            told = [rng.randrange(1, 30) for _ in range(many)]
            rows = []
            for _ in range(rng.randrange(1, many)):
                row = [rng.randrange(-3, 4) * told[-1] for _ in range(many - 1)]
                rows.append([*row, -sum(a * b for a, b in zip(row, told)) // told[-1]])
            self.assertTrue(self.check(rows, many))

    def test_told_values(self):
        self.assertEqual(solved([], 0), ([], None))
        self.assertEqual(solved([], 3), ([1, 1, 1], None))
        self.assertEqual(solved([[0, 0]], 2), ([1, 1], None))
        self.assertEqual(solved([[2, -4]], 2), ([2, 1], None))
        self.assertEqual(solved([[2, 4]], 2), (None, [1]))
        self.assertEqual(solved([[0, -3]], 2), (None, [-1]))
        self.assertEqual(solved([[]], 0), ([], None))


if __name__ == "__main__":
    unittest.main()
