import itertools
import random
import unittest

from askedpairs.orders import is_order, run_order
from tests.helper import (EMPTY, GREAT, WEB, is_int, is_row, look_over, look_over_run, random_webs, rows_of_answers,
                          run_by_words, same)


def order_by_words(web, thing):
    return (is_row(thing) and all(is_int(part, 0, len(web[1]) - 1) for part in thing)
            and not any(thing.count(part) > 1 for part in thing[:17]) and len(thing) <= len(web[1]))


class IsOrder(unittest.TestCase):
    def test_none_some_and_all_ties(self):
        for order in ((), (0,), (4,), (3, 0, 4), (0, 1, 2, 3, 4), (4, 3, 2, 1, 0), (2, 0, 4, 1, 3)):
            self.assertIs(is_order(WEB, order), True)
        self.assertIs(is_order(EMPTY, ()), True)
        self.assertIs(is_order(GREAT, tuple(range(16))), True)

    def test_no_orders(self):
        for thing in ((0, 0), (0, 1, 0), (5,), (0, 5), (-1,), (0, -1), (0, 1, 2, 3, 4, 0), (True,), (0, True),
                      (False,), (None,), ("0",), ((0,),), ([],), ({},), [], [0, 1], None, 0, True, "", "01", {},
                      {0: 1}):
            self.assertIs(is_order(WEB, thing), False, thing)
        for thing in ((0,), (-1,), ((),)):
            self.assertIs(is_order(EMPTY, thing), False)

    def test_anything(self):
        for web in (WEB, EMPTY, GREAT):
            many = len(web[1])
            good = [(), tuple(range(many)), tuple(range(many))[::-1], tuple(range(many))[1::2]]
            look_over(self, lambda thing: is_order(web, thing), good, lambda thing: order_by_words(web, thing))


class RunOrder(unittest.TestCase):
    def test_by_examples(self):
        # Patience 2, 3, 2, 1 and four asks.
        self.assertTrue(same(run_order(WEB, (), (True,) * 5), ()))
        self.assertTrue(same(run_order(WEB, (0, 1, 2, 3, 4), (True,) * 5), ((0, True), (3, True))))
        no = (False,) * 5
        self.assertTrue(same(run_order(WEB, (0, 1, 2, 3, 4), no), ((0, False), (1, False), (2, False))))
        self.assertTrue(same(run_order(WEB, (4, 3, 0, 1), no), ((4, False), (3, False), (0, False), (1, False))))
        self.assertTrue(same(run_order(WEB, (2, 4, 1), (True, True, False, True, True)), ((2, False), (4, True))))
        self.assertTrue(same(run_order(EMPTY, (), ()), ()))

    def test_patience_just_met_and_one_below(self):
        ties = ((0, 1, (1, 2), 1), (0, 2, (1, 2), 1), (0, 3, (1, 2), 1))
        for patience in range(5):
            run = run_order((4, ties, (patience, 1, 1, 1), 9), (2, 0, 1), (False,) * 3)
            self.assertTrue(same(run, ((2, False), (0, False), (1, False))[:patience]))

    def test_asks_just_met_and_one_below(self):
        for asks in range(18):
            web = (GREAT[0], GREAT[1], GREAT[2], asks)
            run = run_order(web, tuple(range(16)), (False,) * 16)
            self.assertTrue(same(run, tuple((tie, False) for tie in range(min(asks, 16)))))

    def test_a_tie_passed_over_bears_nothing(self):
        ties = ((0, 1, (1, 2), 1), (0, 2, (1, 2), 1), (2, 3, (1, 2), 1))
        web = (4, ties, (9, 9, 1, 1), 2)
        self.assertTrue(same(run_order(web, (0, 1, 2), (True,) * 3), ((0, True), (2, True))))

    def test_all_orders_and_answers(self):
        for web in [WEB] + random_webs(81, 15, 5, 4, 3):
            for size in range(len(web[1]) + 1):
                for order in itertools.permutations(range(len(web[1])), size):
                    for answers in rows_of_answers(web):
                        told = run_order(web, order, answers)
                        self.assertTrue(same(told, run_by_words(web, order, answers)), (web, order, answers))

    def test_no_run_asks_too_much(self):
        rng = random.Random(82)
        for web in random_webs(82, 300, 12, 16, 6):
            order = tuple(rng.sample(range(len(web[1])), len(web[1])))
            answers = tuple(rng.random() < 0.3 for tie in web[1])
            run = run_order(web, order, answers)
            self.assertTrue(same(run, run_order(web, order, answers)))
            look_over_run(self, web, run)


if __name__ == "__main__":
    unittest.main()
