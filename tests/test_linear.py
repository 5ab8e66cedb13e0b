import random
import unittest
from fractions import Fraction

from askedpairs.linear import best_levels, column_to_enter, row_to_leave
from tests.helper import fraction_by_words


class Choices(unittest.TestCase):
    def test_columns(self):
        self.assertIsNone(column_to_enter([0, 3, 0], [0, 1]))
        self.assertIsNone(column_to_enter([-1], []))
        self.assertEqual(column_to_enter([0, -1, -9, 5], [0, 1, 2]), 1)
        # The least variable, not the first column nor the greatest gain.
        self.assertEqual(column_to_enter([-9, -1, -1, 5], [7, 4, 5]), 1)
        # What stands behind the columns is no gain.
        self.assertIsNone(column_to_enter([1, 0, -5], [0, 1]))

    def test_rows(self):
        self.assertEqual(row_to_leave([[2, 6], [1, 4], [-1, 0]], [3, 4], 0), 0)
        self.assertEqual(row_to_leave([[2, 6], [1, 2], [-1, 0]], [3, 4], 0), 1)
        # Only where the level takes of what is left.
        self.assertEqual(row_to_leave([[-2, 0], [0, 0], [1, 9], [-1, 0]], [3, 4, 5], 0), 2)
        # Of alike ones the least variable, wherever it stands.
        for within in ((3, 4, 5), (4, 3, 5), (5, 4, 3), (4, 5, 3)):
            tableau = [[2, 6], [1, 3], [3, 9], [-1, 0]]
            self.assertEqual(row_to_leave(tableau, within, 0), within.index(3))


class BestLevels(unittest.TestCase):
    def look_over_program(self, gains, rows, limits):
        """Levels within the limits and prices that pay, both worth the same: neither can be bettered."""
        levels, prices = best_levels(gains, rows, limits)
        self.assertEqual((len(levels), len(prices)), (len(gains), len(rows)))
        self.assertTrue(all(fraction_by_words(part) and part[0] >= 0 for part in levels + prices))
        levels, prices = [Fraction(*part) for part in levels], [Fraction(*part) for part in prices]
        for row, limit in zip(rows, limits):
            self.assertLessEqual(sum(entry * level for entry, level in zip(row, levels)), limit)
        for at, gain in enumerate(gains):
            self.assertGreaterEqual(sum(row[at] * price for row, price in zip(rows, prices)), gain)
        worth = sum(gain * level for gain, level in zip(gains, levels))
        self.assertEqual(worth, sum(limit * price for limit, price in zip(limits, prices)))
        return worth

    def test_by_examples(self):
        self.assertEqual(best_levels([], [], []), ((), ()))
        self.assertEqual(best_levels([], [[]], [3]), ((), ((0, 1),)))
        self.assertEqual(best_levels([0], [[2]], [3]), (((0, 1),), ((0, 1),)))
        self.assertEqual(best_levels([5], [[2]], [3]), (((3, 2),), ((5, 2),)))
        self.assertEqual(best_levels([-5], [[2]], [3]), (((0, 1),), ((0, 1),)))
        self.assertEqual(best_levels([3, 2], [[1, 1], [3, 1]], [4, 6]), (((1, 1), (3, 1)), ((3, 2), (1, 2))))

    def test_random_programs(self):
        rng = random.Random(261)
        for at in range(400):
            many, more = rng.randint(1, 6), rng.randint(0, 6)
            rows = [[1 if place == at else 0 for at in range(many)] for place in range(many)]
            rows += [[rng.choice([0, 0, 1, 2, 5, -1, -3, 100]) for at in range(many)] for place in range(more)]
            limits = [rng.choice([0, 1, 2, 20]) for row in rows]
            gains = [rng.choice([0, 1, 3, -2, 1000]) for at in range(many)]
            self.look_over_program(gains, rows, limits)

    def test_programs_that_other_choices_go_round_in(self):
        # Each one's first limits are 0, so that many exchanges leave the gain as it is.
        rows = [[1, -11, -5, 18], [1, -3, -1, 2], [1, 0, 0, 0]]
        self.assertEqual(self.look_over_program([10, -57, -9, -24], rows, [0, 0, 1]), 1)
        rows = [[1, -240, -4, 36], [1, -180, -1, 6], [0, 0, 1, 0]]
        self.assertEqual(self.look_over_program([3, -600, 2, -24], rows, [0, 0, 1]), 5)

    def test_what_is_handed_in_stays(self):
        gains, rows, limits = [3, 2], [[1, 1], [3, 1]], [4, 6]
        best_levels(gains, rows, limits)
        self.assertEqual((gains, rows, limits), ([3, 2], [[1, 1], [3, 1]], [4, 6]))


if __name__ == "__main__":
    unittest.main()
