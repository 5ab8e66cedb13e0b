import random
import unittest
from fractions import Fraction

from askedpairs.fractions import greatest_first, less, lowest, plus, times, total
from tests.helper import BIG, pair_of, same

NUMBERS = [0, 1, -1, 2, -2, 3, 6, -6, 12, 35, 100, 10 ** 49, 10 ** 50 + 1, -(10 ** 50), 6 * 10 ** 49, BIG, -BIG,
           2 ** 160, -(3 ** 100), 2 ** 99 * 3 ** 40]


class Fractions(unittest.TestCase):
    def setUp(self):
        rng = random.Random(4)
        self.numbers = NUMBERS + [rng.randint(-10 ** 50, 10 ** 50) for at in range(20)]
        self.bottoms = [number for number in self.numbers if number != 0]
        self.fractions = [pair_of(Fraction(rng.choice(self.numbers), rng.choice(self.bottoms))) for at in range(60)]
        self.fractions += [(0, 1), (1, 1), (-1, 1), (1, 2), (1, 3), (-1, 2), (1, 6), (5, 6)]

    def test_lowest_by_examples(self):
        self.assertEqual(lowest(6, 4), (3, 2))
        self.assertEqual(lowest(6, -4), (-3, 2))
        self.assertEqual(lowest(-6, -4), (3, 2))
        self.assertEqual(lowest(-6, 4), (-3, 2))
        self.assertEqual(lowest(0, 7), (0, 1))
        self.assertEqual(lowest(0, -7), (0, 1))
        self.assertEqual(lowest(7, 7), (1, 1))
        self.assertEqual(lowest(7, -1), (-7, 1))
        self.assertEqual(lowest(3, 5), (3, 5))

    def test_lowest_of_all_signs_and_sizes(self):
        for top in self.numbers:
            for bottom in self.bottoms:
                self.assertTrue(same(lowest(top, bottom), pair_of(Fraction(top, bottom))))

    def test_lowest_takes_common_divisors_out(self):
        for common in (2, 3, 10 ** 9 + 7, -4):
            self.assertEqual(lowest(common * (10 ** 50 + 1), common * 10 ** 50), (10 ** 50 + 1, 10 ** 50))

    def test_sums_and_products(self):
        for one in self.fractions:
            for other in self.fractions:
                self.assertTrue(same(plus(one, other), pair_of(Fraction(*one) + Fraction(*other))))
                self.assertTrue(same(times(one, other), pair_of(Fraction(*one) * Fraction(*other))))

    def test_sums_and_products_by_examples(self):
        self.assertEqual(plus((1, 2), (1, 3)), (5, 6))
        self.assertEqual(plus((1, 2), (-1, 2)), (0, 1))
        self.assertEqual(plus((1, 6), (1, 3)), (1, 2))
        self.assertEqual(times((2, 3), (3, 2)), (1, 1))
        self.assertEqual(times((-2, 3), (0, 1)), (0, 1))

    def test_less(self):
        for one in self.fractions:
            self.assertIs(less(one, one), False)
            for other in self.fractions:
                self.assertIs(less(one, other), Fraction(*one) < Fraction(*other))

    def test_less_by_a_hair(self):
        just = (10 ** 50, 10 ** 50 + 1)
        self.assertIs(less(just, (1, 1)), True)
        self.assertIs(less((1, 1), just), False)
        self.assertIs(less((-1, 1), (-just[0], just[1])), True)
        self.assertIs(less((-1, 2), (-1, 3)), True)

    def test_totals(self):
        self.assertEqual(total(()), (0, 1))
        self.assertEqual(total([(1, 2), (1, 3), (-1, 6)]), (2, 3))
        for many in range(0, len(self.fractions), 7):
            row = self.fractions[:many]
            self.assertTrue(same(total(row), pair_of(sum(Fraction(*part) for part in row))))

    def test_greatest_first(self):
        self.assertEqual(greatest_first([]), [])
        self.assertEqual(greatest_first([(1, 3), (-1, 2), (1, 2), (0, 1), (1, 3), (2, 1)]), [5, 2, 0, 4, 3, 1])
        row = self.fractions + self.fractions[::-2]
        self.assertEqual(greatest_first(row), sorted(range(len(row)), key=lambda at: (-Fraction(*row[at]), at)))


if __name__ == "__main__":
    unittest.main()
