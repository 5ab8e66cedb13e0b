import unittest
from fractions import Fraction

from askedpairs.ahead import best_order, loss, seer
from askedpairs.errors import TooMany
from askedpairs.layers import order_worth
from askedpairs.orders import is_order
from askedpairs.tables import best_worth
from tests.helper import (EMPTY, GREAT, WEB, WIDE, all_orders, average_by_words, best_by_words, order_worth_by_words,
                          pair_of, pairings_by_words, random_webs, same, with_ties)

# What is best to ask next hangs on the answers, so that no order does it.
TORN = (5, ((0, 1, (3, 4), 2), (3, 4, (1, 3), 3), (0, 4, (1, 3), 3), (2, 3, (3, 4), 3), (3, 4, (1, 2), 2)),
        (2, 2, 3, 2, 3), 3)
WORTHLESS = (4, ((0, 1, (1, 2), 0), (1, 2, (0, 1), 9), (2, 3, (1, 1), 0)), (3,) * 4, 9)


def seer_by_words(web):
    pairings = [(set(ties), sum(web[1][tie][3] for tie in ties)) for ties in pairings_by_words(web)]
    return average_by_words(web, lambda answers: max(
        worth for ties, worth in pairings if all(answers[tie] for tie in ties)))


class BestOrder(unittest.TestCase):
    def look_over_order(self, web):
        told = best_order(web)
        self.assertTrue(same(told, best_order(web)))
        self.assertEqual((tuple, 2), (type(told), len(told)))
        worth, order = told
        self.assertIs(is_order(web, order), True)
        self.assertTrue(same(worth, order_worth(web, order)))
        self.assertTrue(same(worth, pair_of(order_worth_by_words(web, order))))
        return Fraction(*worth)

    def test_by_examples(self):
        self.assertTrue(same(best_order(EMPTY), ((0, 1), ())))
        web = (3, ((0, 1, (1, 2), 3), (1, 2, (1, 3), 5)), (2, 2, 2), 2)
        self.assertTrue(same(best_order(web), ((8, 3), (1, 0))))
        self.assertTrue(same(best_order(WORTHLESS)[0], (0, 1)))

    def test_no_order_is_worth_more(self):
        for web in [with_ties(WEB, 4), WORTHLESS] + random_webs(211, 25, 5, 4, 3):
            best = max(order_worth_by_words(web, order) for order in all_orders(len(web[1])))
            self.assertEqual(self.look_over_order(web), best)

    def test_five_ties_and_six(self):
        for web in [WEB, TORN, with_ties(WIDE, 5), with_ties(GREAT, 5)[:3] + (3,)]:
            best = max(Fraction(*order_worth(web, order)) for order in all_orders(5))
            self.assertEqual(self.look_over_order(web), best)
        for web in (WIDE, GREAT):
            for many in (6, 7, 8, 16):
                for question in (best_order, loss):
                    with self.assertRaises(TooMany):
                        question(with_ties(web, many))

    def test_refused_ahead_of_any_other_work(self):
        for ties in (((0, 1, (1, 2), 1),) * 40, (None,) * 6):
            for question in (best_order, loss):
                with self.assertRaises(TooMany):
                    question((2, ties, (20, 20), 40))


class Loss(unittest.TestCase):
    def test_by_examples(self):
        self.assertTrue(same(loss(EMPTY), (1, 1)))
        self.assertTrue(same(loss(WORTHLESS), (1, 1)))
        self.assertTrue(same(loss((2, ((0, 1, (1, 2), 9),), (1, 1), 0)), (1, 1)))
        self.assertTrue(same(loss((2, ((0, 1, (1, 2), 9),), (0, 1), 3)), (1, 1)))
        self.assertTrue(same(loss((2, ((0, 1, (1, 2), 9),), (1, 1), 3)), (1, 1)))

    def test_an_order_that_is_worth_less(self):
        self.assertTrue(same(best_worth(TORN), (35, 8)))
        self.assertTrue(same(best_order(TORN)[0], (69, 16)))
        self.assertTrue(same(loss(TORN), (69, 70)))

    def test_the_share_is_exact(self):
        for web in [with_ties(WEB, 4)] + random_webs(221, 40, 6, 4, 3):
            best = best_by_words(web)
            orders = [order_worth_by_words(web, order) for order in all_orders(len(web[1]))]
            told = Fraction(*best_order(web)[0])
            self.assertEqual(told, max(orders))
            self.assertLessEqual(told, best)
            self.assertTrue(same(loss(web), pair_of(told / best if best else 1)))
            self.assertTrue(same(loss(web), loss(web)))


class Seer(unittest.TestCase):
    def test_by_examples(self):
        self.assertTrue(same(seer(EMPTY), (0, 1)))
        # Patience and asks aside.
        for patience in (0, 1, 9):
            for asks in (0, 1, 9):
                web = (2, ((0, 1, (1, 2), 9),), (patience, 1), asks)
                self.assertTrue(same(seer(web), (9, 2)))
        # Both say yes: 5; one alone: 3 or 5.
        web = (3, ((0, 1, (1, 2), 3), (1, 2, (1, 3), 5)), (2, 2, 2), 2)
        self.assertTrue(same(seer(web), (8, 3)))
        self.assertTrue(same(seer(WORTHLESS), (0, 1)))
        # The middle one is heavier than each, not than both.
        path = (4, ((0, 1, (1, 1), 3), (1, 2, (1, 1), 5), (2, 3, (1, 1), 4)), (1,) * 4, 1)
        self.assertTrue(same(seer(path), (7, 1)))

    def test_by_words(self):
        for web in [WEB, TORN] + random_webs(231, 80):
            self.assertTrue(same(seer(web), pair_of(seer_by_words(web))))
            self.assertTrue(same(seer(web), seer(web)))

    def test_eight_ties_and_nine(self):
        for web in (WIDE, GREAT):
            eight = with_ties(web, 8)
            self.assertTrue(same(seer(eight), pair_of(seer_by_words(eight))))
            for many in (9, 10, 16):
                with self.assertRaises(TooMany):
                    seer(with_ties(web, many))

    def test_refused_ahead_of_any_other_work(self):
        for ties in (((0, 1, (1, 2), 1),) * 60, (None,) * 9):
            with self.assertRaises(TooMany):
                seer((2, ties, (20, 20), 40))

    def test_no_plan_is_worth_more(self):
        for web in [WEB, TORN] + random_webs(232, 60, 6, 6):
            self.assertLessEqual(Fraction(*best_worth(web)), Fraction(*seer(web)))


if __name__ == "__main__":
    unittest.main()
