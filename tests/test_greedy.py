import unittest
from fractions import Fraction

from askedpairs.greedy import by_both, by_chance, by_worth, is_enough
from askedpairs.layers import order_worth
from askedpairs.orders import is_order, run_order
from askedpairs.tables import best_worth
from tests.helper import EMPTY, GREAT, WEB, WIDE, look_over_run, random_webs, rows_of_answers, same, ties_of_thing


def order_by_words(web, measure):
    return tuple(sorted(range(len(web[1])), key=lambda at: (-measure(web[1][at]), at)))


def chance(tie):
    return Fraction(*tie[2])


def worth(tie):
    return tie[3]


def both(tie):
    return chance(tie) * worth(tie)


class Orders(unittest.TestCase):
    def test_by_examples(self):
        for question in (by_chance, by_worth, by_both):
            self.assertTrue(same(question(EMPTY), ()))
        # Chances 1/2, 1/3, 3/4, 1, 0; worths 10, 20, 5, 7, 1000; products 5, 20/3, 15/4, 7, 0.
        self.assertTrue(same(by_chance(WEB), (3, 2, 0, 1, 4)))
        self.assertTrue(same(by_worth(WEB), (4, 1, 0, 3, 2)))
        self.assertTrue(same(by_both(WEB), (3, 1, 0, 2, 4)))

    def test_alike_ones(self):
        for question in (by_chance, by_worth, by_both):
            self.assertTrue(same(question(GREAT), tuple(range(16))))
        ties = ((0, 1, (1, 2), 6), (0, 1, (1, 3), 9), (0, 1, (1, 2), 9), (0, 1, (1, 3), 6), (0, 1, (1, 1), 3))
        web = (2, ties, (1, 1), 1)
        self.assertTrue(same(by_chance(web), (4, 0, 2, 1, 3)))
        self.assertTrue(same(by_worth(web), (1, 2, 0, 3, 4)))
        # Products 3, 3, 9/2, 2, 3.
        self.assertTrue(same(by_both(web), (2, 0, 1, 4, 3)))

    def test_chances_a_hair_apart(self):
        ties = ((0, 1, (98, 99), 0), (0, 1, (99, 100), 1000), (0, 1, (97, 98), 1), (0, 1, (1, 100), 0),
                (0, 1, (1, 99), 0), (0, 1, (0, 1), 0), (0, 1, (1, 1), 0))
        self.assertTrue(same(by_chance((2, ties, (0, 0), 0)), (6, 1, 0, 2, 4, 3, 5)))

    def test_by_words(self):
        for web in [WEB, WIDE, GREAT] + random_webs(291, 200, 12, 16):
            for question, measure in ((by_chance, chance), (by_worth, worth), (by_both, both)):
                order = question(web)
                self.assertTrue(same(order, order_by_words(web, measure)), (web, order))
                self.assertTrue(same(order, question(web)))
                self.assertIs(is_order(web, order), True)
                self.assertEqual(len(order), len(web[1]))

    def test_runs_and_worths(self):
        for web in [WEB] + random_webs(292, 60, 6, 6):
            for order in (by_chance(web), by_worth(web), by_both(web)):
                self.assertLessEqual(Fraction(*order_worth(web, order)), Fraction(*best_worth(web)))
                for answers in rows_of_answers(web):
                    look_over_run(self, web, run_order(web, order, answers))


class IsEnough(unittest.TestCase):
    def test_no_ties(self):
        self.assertIs(is_enough(EMPTY), True)
        self.assertIs(is_enough((3, (), (0, 0, 0), 0)), True)

    def test_just_enough_and_one_below(self):
        ties = ((0, 1, (1, 2), 1), (0, 2, (0, 1), 0), (0, 1, (1, 1), 9))
        self.assertIs(is_enough((4, ties, (3, 2, 1, 0), 3)), True)
        self.assertIs(is_enough((4, ties, (2, 2, 1, 0), 3)), False)
        self.assertIs(is_enough((4, ties, (3, 1, 1, 0), 3)), False)
        self.assertIs(is_enough((4, ties, (3, 2, 0, 0), 3)), False)
        self.assertIs(is_enough((4, ties, (3, 2, 1, 0), 2)), False)
        self.assertIs(is_enough((4, ties, (20, 20, 20, 20), 40)), True)
        self.assertIs(is_enough((4, ties, (20, 20, 20, 20), 0)), False)

    def test_by_words(self):
        told = {True: 0, False: 0}
        for web in [WEB, WIDE, GREAT] + random_webs(293, 300, 8, 4, 4):
            enough = (all(web[2][thing] >= len(ties_of_thing(web, thing)) for thing in range(web[0]))
                      and web[3] >= len(web[1]))
            self.assertIs(is_enough(web), enough)
            told[enough] += 1
        self.assertGreater(min(told.values()), 20)


if __name__ == "__main__":
    unittest.main()
