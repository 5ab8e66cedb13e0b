import itertools
import unittest
from fractions import Fraction

from askedpairs.errors import NoRise, NoText, NotTwoSided, PairsError, TooMany
from askedpairs.led import beside, left_out, order_beside, raised
from askedpairs.orders import is_order, run_order
from askedpairs.webs import is_web
from tests.helper import (CHANCES, EMPTY, GREAT, WEB, WIDE, put, random_webs, rows_of_answers, same, ties_between,
                          web_by_words, with_ties)

PAIR = (2, ((0, 1, (1, 2), 3),), (1, 2), 1)


def web_of_sizes(things, ties, asks):
    """A web with so many things, ties and asks."""
    return (things, ties_between([(0, 1)] * ties), (1,) * things, asks)


class Raised(unittest.TestCase):
    def test_by_examples(self):
        self.assertTrue(same(raised(PAIR, 0, (2, 3)), (2, ((0, 1, (2, 3), 3),), (1, 2), 1)))
        self.assertTrue(same(raised(WEB, 1, (1, 2)), put(WEB, 1, put(WEB[1], 1, (1, 2, (1, 2), 20)))))
        self.assertTrue(same(raised(WEB, 4, (1, 1)), put(WEB, 1, put(WEB[1], 4, (0, 1, (1, 1), 1000)))))
        self.assertTrue(same(raised(WEB, 0, (51, 100)), put(WEB, 1, put(WEB[1], 0, (0, 1, (51, 100), 10)))))

    def test_just_its_own_and_below(self):
        for web in (WEB, WIDE, GREAT):
            for tie in range(len(web[1])):
                self.assertTrue(same(raised(web, tie, web[1][tie][2]), web))
        # A hair above, a hair below.
        self.assertTrue(same(raised(GREAT, 15, (1, 1)), put(GREAT, 1, put(GREAT[1], 15, (4, 11, (1, 1), 1000)))))
        for tie, chance in ((0, (49, 99)), (0, (49, 100)), (1, (33, 100)), (2, (74, 99)), (3, (99, 100)), (3, (0, 1))):
            with self.assertRaises(NoRise) as caught:
                raised(WEB, tie, chance)
            self.assertIsInstance(caught.exception, PairsError)
            self.assertNotIsInstance(caught.exception, (TooMany, NoText, NotTwoSided))

    def test_all_chances(self):
        for web in [WEB, WIDE] + random_webs(541, 20, 12, 16):
            for tie, chance in itertools.product(range(len(web[1])), CHANCES):
                one, other, own, worth = web[1][tie]
                if Fraction(*chance) < Fraction(*own):
                    with self.assertRaises(NoRise):
                        raised(web, tie, chance)
                else:
                    told = raised(web, tie, chance)
                    self.assertTrue(same(told, put(web, 1, put(web[1], tie, (one, other, chance, worth)))))
                    self.assertIs(web_by_words(told), True)
                    self.assertTrue(same(told, raised(web, tie, chance)))


class LeftOut(unittest.TestCase):
    def test_by_examples(self):
        self.assertTrue(same(left_out(EMPTY, ()), EMPTY))
        self.assertTrue(same(left_out(PAIR, ()), PAIR))
        self.assertTrue(same(left_out(PAIR, (0,)), (2, (), (1, 2), 1)))
        self.assertTrue(same(left_out(WEB, (1, 3)), (4, (WEB[1][0], WEB[1][2], WEB[1][4]), (2, 3, 2, 1), 4)))

    def test_all_rows_of_ties(self):
        for web in [WEB, with_ties(WIDE, 7)] + random_webs(542, 20, 6, 6):
            for size in range(len(web[1]) + 1):
                for ties in itertools.combinations(range(len(web[1])), size):
                    told = left_out(web, ties)
                    kept = tuple(web[1][at] for at in range(len(web[1])) if not ties.count(at))
                    self.assertTrue(same(told, put(web, 1, kept)))
                    self.assertIs(is_web(told), True)
        self.assertTrue(same(left_out(GREAT, tuple(range(16))), put(GREAT, 1, ())))


class Beside(unittest.TestCase):
    def test_by_examples(self):
        self.assertTrue(same(beside(EMPTY, EMPTY), EMPTY))
        for web in (PAIR, WEB):
            self.assertTrue(same(beside(web, EMPTY), web))
            self.assertTrue(same(beside(EMPTY, web), web))
        other = (3, ((0, 2, (1, 3), 7), (1, 2, (0, 1), 0)), (5, 6, 7), 9)
        told = (5, ((0, 1, (1, 2), 3), (2, 4, (1, 3), 7), (3, 4, (0, 1), 0)), (1, 2, 5, 6, 7), 10)
        self.assertTrue(same(beside(PAIR, other), told))
        told = (5, ((0, 2, (1, 3), 7), (1, 2, (0, 1), 0), (3, 4, (1, 2), 3)), (5, 6, 7, 1, 2), 10)
        self.assertTrue(same(beside(other, PAIR), told))

    def test_by_words(self):
        many = 0
        for one, other in zip(random_webs(543, 80, 8, 9), random_webs(544, 80, 8, 9)):
            if one[0] + other[0] <= 12 and len(one[1] + other[1]) <= 16:
                told = beside(one, other)
                many += 1
                self.assertIs(web_by_words(told), True)
                self.assertTrue(same(told, beside(one, other)))
                things, ties, patience, asks = told
                self.assertEqual((things, patience, asks), (one[0] + other[0], one[2] + other[2], one[3] + other[3]))
                self.assertEqual(ties[:len(one[1])], one[1])
                back = tuple((low - one[0], high - one[0], chance, worth)
                             for low, high, chance, worth in ties[len(one[1]):])
                self.assertEqual(back, other[1])
            else:
                with self.assertRaises(TooMany):
                    beside(one, other)
        self.assertGreater(many, 20)

    def test_just_enough_and_one_too_many(self):
        for one, other, fits in (((6, 0, 0), (6, 0, 0), True), ((6, 0, 0), (7, 0, 0), False),
                                 ((7, 0, 0), (6, 0, 0), False), ((12, 0, 0), (0, 0, 0), True),
                                 ((12, 0, 0), (1, 0, 0), False), ((2, 8, 0), (2, 8, 0), True),
                                 ((2, 8, 0), (2, 9, 0), False), ((2, 16, 0), (0, 0, 0), True),
                                 ((2, 16, 0), (2, 1, 0), False), ((0, 0, 20), (0, 0, 20), True),
                                 ((0, 0, 20), (0, 0, 21), False), ((0, 0, 40), (0, 0, 0), True),
                                 ((0, 0, 40), (0, 0, 1), False), ((6, 8, 20), (6, 8, 20), True),
                                 ((6, 8, 20), (6, 8, 21), False), ((6, 8, 20), (6, 9, 20), False),
                                 ((6, 8, 20), (7, 8, 20), False), ((12, 16, 40), (12, 16, 40), False)):
            webs = web_of_sizes(*one), web_of_sizes(*other)
            if fits:
                self.assertIs(web_by_words(beside(*webs)), True)
            else:
                with self.assertRaises(TooMany) as caught:
                    beside(*webs)
                self.assertIsInstance(caught.exception, PairsError)
                self.assertNotIsInstance(caught.exception, (NoRise, NoText, NotTwoSided))


class OrderBeside(unittest.TestCase):
    def test_by_examples(self):
        self.assertTrue(same(order_beside(EMPTY, (), ()), ()))
        self.assertTrue(same(order_beside(WEB, (), ()), ()))
        self.assertTrue(same(order_beside(WEB, (3, 0), ()), (3, 0)))
        self.assertTrue(same(order_beside(WEB, (), (3, 0)), (8, 5)))
        self.assertTrue(same(order_beside(WEB, (4, 1), (2, 0, 1)), (4, 1, 7, 5, 6)))
        self.assertTrue(same(order_beside(EMPTY, (), (1, 0)), (1, 0)))

    def test_its_run_is_that_of_both(self):
        for one, other in zip(random_webs(545, 30, 5, 4), random_webs(546, 30, 5, 4)):
            # With enough asks neither takes any from the other.
            one, other = put(one, 3, 9), put(other, 3, 9)
            both = beside(one, other)
            for order in (tuple(range(len(one[1]))), tuple(range(len(one[1])))[::-1]):
                other_order = tuple(range(len(other[1])))[::-1]
                told = order_beside(one, order, other_order)
                self.assertIs(is_order(both, told), True)
                for answers in rows_of_answers(both):
                    mine, theirs = answers[:len(one[1])], answers[len(one[1]):]
                    run = run_order(one, order, mine) + tuple(
                        (tie + len(one[1]), truth) for tie, truth in run_order(other, other_order, theirs))
                    self.assertTrue(same(run_order(both, told, answers), run))


if __name__ == "__main__":
    unittest.main()
