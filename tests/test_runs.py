import itertools
import unittest
from fractions import Fraction

from askedpairs.runs import answers_of, kept_of, worth_kept
from tests.helper import EMPTY, WEB, random_webs, same


class Kept(unittest.TestCase):
    def test_by_examples(self):
        self.assertTrue(same(kept_of(()), ()))
        self.assertTrue(same(kept_of(((3, True), (0, False), (1, True))), (3, 1)))
        self.assertTrue(same(kept_of(((3, False),)), ()))
        self.assertEqual(worth_kept(WEB, ((3, True), (0, False), (1, True))), 27)
        self.assertTrue(same(worth_kept(WEB, ()), 0))
        self.assertTrue(same(worth_kept(WEB, ((0, False), (4, False))), 0))

    def test_rows_that_are_no_run(self):
        # A tie twice, and a thing twice: they count as often as they stand there.
        row = ((0, True), (0, True), (1, True), (0, False), (0, True))
        self.assertEqual(kept_of(row), (0, 0, 1, 0))
        self.assertEqual(worth_kept(WEB, row), 50)

    def test_all_rows_of_three(self):
        asks = [(tie, truth) for tie in range(5) for truth in (True, False)]
        for row in itertools.product(asks, repeat=3):
            kept = [tie for tie, truth in row if truth is True]
            self.assertTrue(same(kept_of(row), tuple(kept)))
            self.assertTrue(same(worth_kept(WEB, row), sum(WEB[1][tie][3] for tie in kept)))


class Rolls(unittest.TestCase):
    def test_just_at_the_top_and_one_below(self):
        # Chances 1/2, 1/3, 3/4, 1/1, 0/1.
        self.assertTrue(same(answers_of(WEB, (0, 0, 2, 0, 0)), (True, True, True, True, False)))
        self.assertTrue(same(answers_of(WEB, (1, 1, 3, 0, 0)), (False, False, False, True, False)))
        self.assertTrue(same(answers_of(WEB, (0, 2, 1, 0, 0)), (True, False, True, True, False)))

    def test_no_ties(self):
        self.assertTrue(same(answers_of(EMPTY, ()), ()))

    def test_of_all_rolls_the_share_says_yes(self):
        for web in [WEB] + random_webs(10, 20, 5, 2):
            rolls = list(itertools.product(*[range(tie[2][1]) for tie in web[1]]))
            told = [answers_of(web, row) for row in rolls]
            for at, tie in enumerate(web[1]):
                self.assertEqual(Fraction(sum(row[at] for row in told), len(rolls)), Fraction(*tie[2]))

    def test_each_roll_of_each_chance(self):
        for bottom in (1, 2, 7, 97, 100):
            for top in range(bottom + 1):
                chance = (Fraction(top, bottom).numerator, Fraction(top, bottom).denominator)
                web = (2, ((0, 1, chance, 1),), (1, 1), 1)
                for roll in range(chance[1]):
                    self.assertTrue(same(answers_of(web, (roll,)), (roll < chance[0],)))


if __name__ == "__main__":
    unittest.main()
