import random
import unittest
from fractions import Fraction

from askedpairs.layers import tree_of
from askedpairs.pricepaper import prices_hold, prices_worth, shares_hold, shares_worth
from askedpairs.tables import best_tree, best_worth, table_of
from askedpairs.worths import asked_shares, worth_of
from tests.helper import (EMPTY, GREAT, TREE, WEB, WIDE, all_orders, grow_tree, look_over, pair_of, prices_by_words,
                          prices_worth_by_words, put, random_webs, same, shares_by_words, shares_worth_by_words,
                          webs_and_trees)

NIL = (0, 1)
HALF = (1, 2)
ONE = (1, 1)
BARE = (3, (), (1, 0, 20), 5)
FEW = (3, ((0, 1, (1, 2), 3), (1, 2, (2, 3), 5)), (1, 2, 2), 2)
SURE = (3, ((0, 1, (1, 1), 1000), (1, 2, (0, 1), 5)), (1, 2, 0), 1)
NO_PRICES = ((NIL,) * 3, (NIL,) * 3, NIL, (NIL,) * 2)


def random_shares(rng, web):
    """Shares that hold or nearly do: as much of each tie as is left, or some of it, or a little more."""
    shares = [Fraction(0) for tie in web[1]]
    for at in rng.sample(range(len(web[1])), len(web[1])):
        one, other, chance, worth = web[1][at]
        left = [Fraction(1), web[3] - sum(shares)]
        for thing in (one, other):
            own = [tie for tie in range(len(web[1])) if thing in web[1][tie][:2]]
            left.append(web[2][thing] - sum(shares[tie] for tie in own))
            kept = sum(shares[tie] * Fraction(*web[1][tie][2]) for tie in own)
            left.append((1 - kept) / Fraction(*chance) if chance[0] else Fraction(1))
        shares[at] = max(min(left), Fraction(0)) * rng.choice([0, 1, 1, Fraction(1, 3)])
    if shares and rng.random() < 0.4:
        shares[rng.randrange(len(shares))] += Fraction(1, 1000)
    return tuple(pair_of(share) for share in shares)


def random_prices(rng, web):
    """Prices that hold or nearly do: once makes up for what the others leave."""
    def some(many, top):
        return [Fraction(rng.choice([0, 0, 1, top]), rng.choice([1, 2, 7])) for at in range(many)]
    keeping, bearing, asking = some(web[0], 9), some(web[0], 5), some(1, 3)[0]
    once = []
    for one, other, chance, worth in web[1]:
        chance = Fraction(*chance)
        once.append(max(Fraction(0), chance * worth - chance * (keeping[one] + keeping[other])
                        - bearing[one] - bearing[other] - asking))
    if once and rng.random() < 0.4:
        at = rng.randrange(len(once))
        once[at] = max(Fraction(0), once[at] - Fraction(1, 1000))
    rows = [tuple(pair_of(price) for price in row) for row in (keeping, bearing, [asking], once)]
    return (rows[0], rows[1], rows[2][0], rows[3])


class SharesHold(unittest.TestCase):
    def yes(self, web, thing):
        self.assertIs(shares_hold(web, thing), True, thing)

    def no(self, web, thing):
        self.assertIs(shares_hold(web, thing), False, thing)

    def test_anything(self):
        for web, good in ((EMPTY, [()]), (BARE, [()]), (FEW, [(NIL, NIL), (HALF, ONE), (ONE, HALF), (ONE, (3, 4))]),
                          (SURE, [(NIL, NIL), (ONE, NIL)]), (GREAT, [(NIL,) * 16, ((1, 20),) * 16]),
                          (WEB, [((1, 2), (1, 3), (1, 4), (1, 5), (1, 6))])):
            look_over(self, lambda thing: shares_hold(web, thing), good, lambda thing: shares_by_words(web, thing))

    def test_random_shares(self):
        rng = random.Random(241)
        told = {True: 0, False: 0}
        for web in [WEB, FEW, SURE] * 5 + random_webs(241, 300, 8, 8):
            shares = random_shares(rng, web)
            right = shares_by_words(web, shares)
            self.assertIs(shares_hold(web, shares), right, (web, shares))
            self.assertIs(shares_hold(web, shares), right)
            told[right] += 1
        self.assertGreater(min(told.values()), 50)

    def test_from_zero_to_one(self):
        web = (2, ((0, 1, HALF, 3),), (2, 2), 2)
        for share in (NIL, ONE, HALF, (99, 100), (10 ** 50, 10 ** 50 + 1)):
            self.yes(web, (share,))
        for share in ((-1, 2), (-1, 1), (2, 1), (101, 100), (10 ** 50 + 1, 10 ** 50), (2, 4), (1, -2), (0, 2), (2, 2),
                      (-1, -2), (1, 0), (1,), (1, 2, 3), (True, 1), (1, True), (False, 1), 0, 1, True, None, "",
                      [1, 2], {}, "12"):
            self.no(web, (share,))

    def test_kept_at_most_once(self):
        web = (3, ((0, 1, HALF, 3), (1, 2, (2, 3), 5)), (9, 9, 9), 9)
        self.yes(web, (ONE, (3, 4)))
        self.no(web, (ONE, (76, 100)))
        self.no(web, (ONE, (3001, 4000)))
        self.yes(web, ((2, 3), ONE))
        self.no(web, ((2001, 3000), ONE))
        sure = (3, ((0, 1, ONE, 3), (0, 2, ONE, 5)), (9, 9, 9), 9)
        self.yes(sure, (HALF, HALF))
        self.no(sure, (HALF, (501, 1000)))
        # Of chance 0 nothing is kept.
        self.yes((3, ((0, 1, NIL, 3), (0, 2, ONE, 5), (0, 1, NIL, 0)), (9, 9, 9), 9), (ONE, ONE, ONE))

    def test_patience_just_met_and_one_part_beyond(self):
        ties = tuple((0, at, (1, 100), 3) for at in range(1, 5))
        for patience in range(5):
            web = (5, ties, (patience, 1, 1, 1, 1), 9)
            self.assertIs(shares_hold(web, (ONE,) * 4), patience == 4)
            self.assertIs(shares_hold(web, (HALF,) * 4), patience >= 2)
            self.assertIs(shares_hold(web, (HALF, HALF, HALF, (501, 1000))), patience >= 3)
            self.assertIs(shares_hold(web, (NIL,) * 4), True)
        # Each thing's own patience, the other's as well.
        self.no((5, ties, (9, 1, 0, 1, 1), 9), (NIL, (1, 100), NIL, NIL))
        self.yes((5, ties, (9, 1, 0, 1, 1), 9), (ONE, NIL, ONE, ONE))

    def test_asks_just_met_and_one_part_beyond(self):
        for asks in range(18):
            web = (GREAT[0], tuple(tie[:2] + ((1, 100), 3) for tie in GREAT[1]), GREAT[2], asks)
            self.assertIs(shares_hold(web, (ONE,) * 16), asks >= 16)
            self.assertIs(shares_hold(web, (HALF,) * 16), asks >= 8)
            self.assertIs(shares_hold(web, (HALF,) * 15 + ((501, 1000),)), asks >= 9)
            self.assertIs(shares_hold(web, (NIL,) * 16), True)

    def test_how_many(self):
        for thing in ((), (NIL,), (NIL,) * 3, [NIL, NIL], {0: NIL, 1: NIL}, NIL, "", None, True, ((NIL, NIL),)):
            self.no(FEW, thing)
        self.no(EMPTY, (NIL,))
        self.yes(EMPTY, ())
        self.yes(BARE, ())

    def test_shares_of_each_plan_are_right(self):
        for web, tree in [(WEB, TREE)] + webs_and_trees(242, 150) + [(WIDE, grow_tree(random.Random(6), WIDE, 200))]:
            shares = asked_shares(web, tree)
            self.yes(web, shares)
            self.assertTrue(same(shares_worth(web, shares), worth_of(web, tree)))
        for web in random_webs(243, 10, 5, 4, 3):
            for order in all_orders(len(web[1])):
                self.yes(web, asked_shares(web, tree_of(web, order)))
            self.yes(web, asked_shares(web, best_tree(web, table_of(web))))


class SharesWorth(unittest.TestCase):
    def test_by_examples(self):
        self.assertTrue(same(shares_worth(EMPTY, ()), NIL))
        self.assertTrue(same(shares_worth(FEW, (NIL, NIL)), NIL))
        self.assertTrue(same(shares_worth(FEW, (ONE, NIL)), (3, 2)))
        self.assertTrue(same(shares_worth(FEW, (HALF, (3, 4))), (13, 4)))
        self.assertTrue(same(shares_worth(SURE, (ONE, ONE)), (1000, 1)))

    def test_by_words(self):
        rng = random.Random(244)
        for web in random_webs(244, 100, 8, 8):
            shares = random_shares(rng, web)
            self.assertTrue(same(shares_worth(web, shares), pair_of(shares_worth_by_words(web, shares))))


class PricesHold(unittest.TestCase):
    def yes(self, web, thing):
        self.assertIs(prices_hold(web, thing), True, thing)

    def no(self, web, thing):
        self.assertIs(prices_hold(web, thing), False, thing)

    def test_anything(self):
        good = ((NIL, (5, 1), NIL), (NIL, NIL, NIL), NIL, (NIL, NIL))
        other = ((NIL, (1, 2), (1, 3)), ((1, 4), (1, 5), NIL), (1, 7), ((2, 1), (4, 1)))
        for web, good in ((EMPTY, [((), (), NIL, ()), ((), (), (3, 2), ())]),
                          (BARE, [((NIL,) * 3, (NIL,) * 3, NIL, ()), ((ONE,) * 3, (HALF,) * 3, HALF, ())]),
                          (FEW, [good, other]), (SURE, [put(NO_PRICES, 2, (1000, 1))])):
            look_over(self, lambda thing: prices_hold(web, thing), good, lambda thing: prices_by_words(web, thing))

    def test_random_prices(self):
        rng = random.Random(251)
        told = {True: 0, False: 0}
        for web in [WEB, FEW, SURE, GREAT] * 5 + random_webs(251, 300, 8, 8):
            prices = random_prices(rng, web)
            right = prices_by_words(web, prices)
            self.assertIs(prices_hold(web, prices), right, (web, prices))
            self.assertIs(prices_hold(web, prices), right)
            told[right] += 1
        self.assertGreater(min(told.values()), 50)

    def test_each_price_pays(self):
        # Chance times worth is 3/2 and 10/3; thing 1 is in both ties.
        self.no(FEW, NO_PRICES)
        self.yes(FEW, put(NO_PRICES, 0, (NIL, (5, 1), NIL)))
        self.no(FEW, put(NO_PRICES, 0, (NIL, (4999, 1000), NIL)))
        self.yes(FEW, put(NO_PRICES, 0, ((3, 1), NIL, (5, 1))))
        self.no(FEW, put(NO_PRICES, 0, ((2999, 1000), NIL, (5, 1))))
        self.no(FEW, put(NO_PRICES, 0, ((5, 1), NIL, (3, 1))))
        self.yes(FEW, put(NO_PRICES, 0, ((1, 1), (2, 1), (3, 1))))
        self.yes(FEW, put(NO_PRICES, 1, (NIL, (10, 3), NIL)))
        self.no(FEW, put(NO_PRICES, 1, (NIL, (3333, 1000), NIL)))
        self.yes(FEW, put(NO_PRICES, 1, ((3, 2), NIL, (10, 3))))
        self.yes(FEW, put(NO_PRICES, 1, ((1, 2), ONE, (7, 3))))
        self.no(FEW, put(NO_PRICES, 1, ((499, 1000), ONE, (7, 3))))
        self.yes(FEW, put(NO_PRICES, 2, (10, 3)))
        self.no(FEW, put(NO_PRICES, 2, (3333, 1000)))
        self.yes(FEW, put(NO_PRICES, 3, ((3, 2), (10, 3))))
        self.no(FEW, put(NO_PRICES, 3, ((1499, 1000), (10, 3))))
        self.no(FEW, put(NO_PRICES, 3, ((10, 3), (3, 2))))
        # All kinds together, just enough and one part below.
        mixed = ((NIL, ONE, ONE), (NIL, HALF, NIL), (1, 2), (NIL, (1, 1)))
        self.yes(FEW, mixed)
        self.no(FEW, put(mixed, 2, (499, 1000)))

    def test_nothing_to_be_paid_for(self):
        free = (3, ((0, 1, NIL, 1000), (1, 2, ONE, 0)), (0, 1, 20), 0)
        self.yes(free, NO_PRICES)
        self.yes(BARE, ((NIL,) * 3, (NIL,) * 3, NIL, ()))
        self.yes(EMPTY, ((), (), NIL, ()))

    def test_below_zero(self):
        rich = (((9, 1),) * 3, ((9, 1),) * 3, (9, 1), ((9, 1),) * 2)
        self.yes(FEW, rich)
        for part in ((-1, 1), (-1, 10 ** 50)):
            self.no(FEW, put(rich, 2, part))
            for row in (0, 1, 3):
                for at in range(len(rich[row])):
                    self.no(FEW, put(rich, row, put(rich[row], at, part)))

    def test_wrong_forms(self):
        rich = (((9, 1),) * 3, ((9, 1),) * 3, (9, 1), ((9, 1),) * 2)
        for thing in (None, True, 0, "", {}, (), list(rich), rich[:3], rich + (NIL,), rich[::-1], (None,) * 4,
                      ("",) * 4, ({},) * 4, ((),) * 4):
            self.no(FEW, thing)
        for row in (0, 1, 3):
            for part in (rich[row][1:], rich[row] + (ONE,), list(rich[row]), None, "", {}, 0, True, ONE):
                self.no(FEW, put(rich, row, part))
        for part in ((18, 2), (9, -1), (-9, -1), [9, 1], (True, 1), (9, True), (9,), (9, 1, 1), 9, None, "", {},
                     (None, 1), ("9", 1), ((9, 1),)):
            self.no(FEW, put(rich, 2, part))
            for row in (0, 1, 3):
                for at in range(len(rich[row])):
                    self.no(FEW, put(rich, row, put(rich[row], at, part)))

    def test_no_plan_is_worth_more(self):
        rng = random.Random(252)
        for web, tree in webs_and_trees(252, 150):
            prices = random_prices(rng, web)
            if prices_hold(web, prices):
                worth = Fraction(*prices_worth(web, prices))
                self.assertGreaterEqual(worth, Fraction(*worth_of(web, tree)))
                self.assertGreaterEqual(worth, Fraction(*best_worth(web)))
                shares = random_shares(rng, web)
                if shares_hold(web, shares):
                    self.assertGreaterEqual(worth, Fraction(*shares_worth(web, shares)))


class PricesWorth(unittest.TestCase):
    def test_by_examples(self):
        self.assertTrue(same(prices_worth(EMPTY, ((), (), (7, 2), ())), NIL))
        self.assertTrue(same(prices_worth(FEW, NO_PRICES), NIL))
        self.assertTrue(same(prices_worth(FEW, put(NO_PRICES, 0, (ONE, HALF, HALF))), (2, 1)))
        # Patience is 1, 2, 2, and there are two asks.
        self.assertTrue(same(prices_worth(FEW, put(NO_PRICES, 1, (ONE, HALF, (1, 3)))), (8, 3)))
        self.assertTrue(same(prices_worth(FEW, put(NO_PRICES, 2, (3, 4))), (3, 2)))
        self.assertTrue(same(prices_worth(FEW, put(NO_PRICES, 3, ((3, 4), ONE))), (7, 4)))
        self.assertTrue(same(prices_worth(BARE, ((ONE,) * 3, (ONE, ONE, HALF), ONE, ())), (19, 1)))

    def test_by_words(self):
        rng = random.Random(253)
        for web in random_webs(253, 100, 8, 8):
            prices = random_prices(rng, web)
            self.assertTrue(same(prices_worth(web, prices), pair_of(prices_worth_by_words(web, prices))))


if __name__ == "__main__":
    unittest.main()
