import itertools
import random
import unittest
from fractions import Fraction

from askedpairs.bounds import bound, by_rolls, by_shares
from askedpairs.errors import TooMany
from askedpairs.layers import order_worth, tree_of
from askedpairs.orders import is_order, run_order
from askedpairs.pricepaper import prices_hold, prices_worth, shares_hold, shares_worth
from askedpairs.tables import best_worth
from askedpairs.worths import asked_shares, worth_of
from tests.helper import (EMPTY, GREAT, WEB, WIDE, fraction_by_words, grow_tree, is_row, look_over_run, pair_of,
                          prices_by_words, prices_worth_by_words, raised_webs, random_webs, rows_of_answers, same,
                          shares_by_words, shares_worth_by_words, with_ties)

NIL = (0, 1)
HALF = (1, 2)
ONE = (1, 1)


class Bound(unittest.TestCase):
    def look_over_bound(self, web):
        told = bound(web)
        self.assertTrue(is_row(told) and len(told) == 3)
        worth, shares, prices = told
        self.assertTrue(fraction_by_words(worth))
        self.assertIs(shares_by_words(web, shares), True, web)
        self.assertIs(prices_by_words(web, prices), True, web)
        self.assertIs(shares_hold(web, shares), True)
        self.assertIs(prices_hold(web, prices), True)
        self.assertTrue(same(worth, pair_of(shares_worth_by_words(web, shares))))
        self.assertTrue(same(worth, pair_of(prices_worth_by_words(web, prices))))
        self.assertTrue(same(worth, shares_worth(web, shares)))
        self.assertTrue(same(worth, prices_worth(web, prices)))
        self.assertTrue(same(told, bound(web)))
        return Fraction(*worth)

    def test_by_examples(self):
        self.assertTrue(same(bound(EMPTY), (NIL, (), ((), (), NIL, ()))))
        self.assertEqual(self.look_over_bound((2, ((0, 1, HALF, 9),), (1, 1), 1)), Fraction(9, 2))
        # Without asks, without patience, without chance, without worth.
        for web in ((2, ((0, 1, HALF, 9),), (1, 1), 0), (2, ((0, 1, HALF, 9),), (0, 1), 1),
                    (2, ((0, 1, HALF, 9),), (1, 0), 1), (2, ((0, 1, NIL, 9),), (1, 1), 1),
                    (2, ((0, 1, ONE, 0),), (1, 1), 1), (3, (), (1, 0, 2), 9), (2, (), (0, 0), 0)):
            self.assertEqual(self.look_over_bound(web), 0)
        # Two ties of one thing: kept once, asked twice, or asked once.
        ties = ((0, 1, HALF, 6), (0, 2, (3, 4), 8))
        self.assertEqual(self.look_over_bound((3, ties, (2, 1, 1), 2)), Fraction(15, 2))
        self.assertEqual(self.look_over_bound((3, ties, (1, 1, 1), 2)), 6)
        self.assertEqual(self.look_over_bound((3, ties, (2, 1, 1), 1)), 6)
        # A ring of three sure ties is worth half of all.
        ring = ((0, 1, ONE, 1000), (1, 2, ONE, 1000), (0, 2, ONE, 1000))
        self.assertEqual(self.look_over_bound((3, ring, (2, 2, 2), 3)), 1500)
        self.assertEqual(self.look_over_bound((3, ring, (2, 2, 2), 1)), 1000)
        # Four apart, three asks.
        apart = tuple((2 * at, 2 * at + 1, (1, at + 1), 12) for at in range(4))
        self.assertEqual(self.look_over_bound((8, apart, (1,) * 8, 3)), 22)
        self.assertEqual(self.look_over_bound((8, apart, (1,) * 8, 4)), 25)

    def test_webs_of_up_to_ten_ties(self):
        for web in [WEB] + random_webs(271, 150, 12, 10) + random_webs(272, 100, 5, 10, 5):
            self.look_over_bound(web)

    def test_ten_ties_and_eleven(self):
        for web in (WIDE, GREAT, GREAT[:3] + (3,), (GREAT[0], GREAT[1], (1,) * 12, 7)):
            self.look_over_bound(with_ties(web, 10))
            for many in (11, 12, 16):
                with self.assertRaises(TooMany):
                    bound(with_ties(web, many))

    def test_alike_ties(self):
        for many, patience, asks in itertools.product((1, 5, 10), (0, 1, 3, 20), (0, 1, 4, 40)):
            for chance in (NIL, (1, 100), (1, 3), ONE):
                web = (2, ((0, 1, chance, 1000),) * many, (patience, 20), asks)
                most = min(1, Fraction(*chance) * min(many, patience, asks))
                self.assertEqual(self.look_over_bound(web), 1000 * most)

    def test_refused_ahead_of_any_other_work(self):
        for ties in (((0, 1, HALF, 1),) * 60, (None,) * 11):
            with self.assertRaises(TooMany):
                bound((2, ties, (20, 20), 40))

    def test_no_plan_is_worth_more(self):
        rng = random.Random(273)
        for web in [WEB] + random_webs(273, 40, 6, 7):
            worth = Fraction(*bound(web)[0])
            self.assertGreaterEqual(worth, Fraction(*best_worth(web)))
            tree = grow_tree(rng, web, 40)
            self.assertGreaterEqual(worth, Fraction(*worth_of(web, tree)))
            self.assertGreaterEqual(worth, Fraction(*shares_worth(web, asked_shares(web, tree))))
        for web in random_webs(274, 25, 12, 10):
            worth = Fraction(*bound(web)[0])
            tree = grow_tree(rng, web, 200)
            self.assertGreaterEqual(worth, Fraction(*worth_of(web, tree)))

    def test_raised_webs_are_bounded_by_no_less(self):
        for web in [WEB] + random_webs(275, 30, 6, 8, 3):
            worth = Fraction(*bound(web)[0])
            for other in raised_webs(web):
                self.assertGreaterEqual(self.look_over_bound(other), worth)


class ByShares(unittest.TestCase):
    def test_by_examples(self):
        self.assertTrue(same(by_shares(EMPTY, ()), ()))
        self.assertTrue(same(by_shares(WEB, (NIL,) * 5), ()))
        self.assertTrue(same(by_shares(WEB, ((1, 3), HALF, (1, 4), (2, 3), NIL)), (3, 1, 0, 2)))
        # Of alike ones the lesser tie.
        self.assertTrue(same(by_shares(WEB, (HALF, NIL, HALF, (2, 3), HALF)), (3, 0, 2, 4)))
        self.assertTrue(same(by_shares(WEB, ((1, 5),) * 5), (0, 1, 2, 3, 4)))
        # Not by the tops nor by the bottoms alone.
        self.assertTrue(same(by_shares(WEB, ((1, 3), (33, 100), (34, 100 + 1), (1, 100), ONE)), (4, 2, 0, 1, 3)))
        just = (10 ** 50, 3 * 10 ** 50 + 1)
        self.assertTrue(same(by_shares(WEB, (just, (1, 3), just, NIL, (1, 10 ** 50))), (1, 0, 2, 4)))

    def order_by_words(self, shares):
        places = [at for at, share in enumerate(shares) if share[0] > 0]
        return tuple(sorted(places, key=lambda at: (-Fraction(*shares[at]), at)))

    def test_by_words(self):
        for web in [WEB] + random_webs(281, 100, 12, 10):
            shares = bound(web)[1]
            order = by_shares(web, shares)
            self.assertTrue(same(order, self.order_by_words(shares)))
            self.assertTrue(same(order, by_shares(web, shares)))
            self.assertIs(is_order(web, order), True)

    def test_runs_and_worths(self):
        rng = random.Random(282)
        for web in [WEB] + random_webs(282, 60, 6, 6):
            worth, shares, prices = bound(web)
            rolls = tuple(rng.randrange(share[1]) for share in shares)
            for order in (by_shares(web, shares), by_rolls(web, shares, rolls)):
                self.assertTrue(same(order_worth(web, order), worth_of(web, tree_of(web, order))))
                self.assertLessEqual(Fraction(*order_worth(web, order)), Fraction(*best_worth(web)))
                self.assertLessEqual(Fraction(*order_worth(web, order)), Fraction(*worth))
                for answers in rows_of_answers(web):
                    look_over_run(self, web, run_order(web, order, answers))


class ByRolls(unittest.TestCase):
    def test_just_at_the_top_and_one_below(self):
        shares = ((2, 3), HALF, (3, 4), ONE, NIL)
        self.assertTrue(same(by_rolls(WEB, shares, (0, 0, 0, 0, 0)), (3, 2, 0, 1)))
        self.assertTrue(same(by_rolls(WEB, shares, (1, 0, 2, 0, 0)), (3, 2, 0, 1)))
        self.assertTrue(same(by_rolls(WEB, shares, (2, 1, 3, 0, 0)), (3,)))
        self.assertTrue(same(by_rolls(WEB, shares, (1, 1, 3, 0, 0)), (3, 0)))
        self.assertTrue(same(by_rolls(WEB, shares, (2, 0, 3, 0, 0)), (3, 1)))
        self.assertTrue(same(by_rolls(WEB, (NIL,) * 5, (0,) * 5), ()))
        self.assertTrue(same(by_rolls(EMPTY, (), ()), ()))

    def test_alike_shares(self):
        self.assertTrue(same(by_rolls(WEB, ((1, 3),) * 5, (0, 1, 0, 2, 0)), (0, 2, 4)))

    def test_all_rolls(self):
        shares = ((2, 3), HALF, (3, 4), ONE, NIL)
        asked = [0] * 5
        rolls = list(itertools.product(*[range(share[1]) for share in shares]))
        for row in rolls:
            order = by_rolls(WEB, shares, row)
            told = [tie for tie in by_shares(WEB, shares) if row[tie] < shares[tie][0]]
            self.assertTrue(same(order, tuple(told)))
            for tie in order:
                asked[tie] += 1
        # So each tie is in the order with just its share.
        self.assertEqual([Fraction(many, len(rolls)) for many in asked], [Fraction(*share) for share in shares])


if __name__ == "__main__":
    unittest.main()
