import itertools
import random
import unittest

from askedpairs.chargepaper import is_pairing
from askedpairs.errors import NoRise, NoText, NotTwoSided, PairsError, TooMany
from askedpairs.greedy import by_worth
from askedpairs.orders import run_order
from askedpairs.pairings import heaviest
from askedpairs.pairpaper import heaviest_holds
from askedpairs.runs import kept_of
from askedpairs.sides import sides
from tests.helper import (CHANCES, EMPTY, GREAT, WEB, WIDE, enough_webs, heaviest_by_words, heaviest_worth_by_words,
                          look_over, pairings_by_words, put, random_webs, same, ties_between, two_sided_webs,
                          worth_by_ties)

# The middle tie is worth more than either other one, less than both.
PATH = (4, ties_between([(0, 1), (1, 2), (2, 3)], [3, 5, 4]), (1,) * 4, 1)
SQUARE = (4, ties_between([(0, 1), (1, 2), (2, 3), (0, 3)], [7, 9, 6, 3]), (0,) * 4, 0)
THREE = (3, ties_between([(0, 1), (1, 2), (0, 2)], [2, 2, 2]), (2,) * 3, 3)
TWICE = (2, ties_between([(0, 1), (0, 1)], [3, 8]), (1, 1), 1)


class HeaviestHolds(unittest.TestCase):
    def yes(self, web, pairing, prices):
        self.assertIs(heaviest_holds(web, (pairing, prices)), True, (pairing, prices))

    def no(self, web, pairing, prices):
        self.assertIs(heaviest_holds(web, (pairing, prices)), False, (pairing, prices))

    def test_no_ties(self):
        self.yes(EMPTY, (), ())
        self.yes((3, (), (0,) * 3, 0), (), (0, 0, 0))
        self.no((3, (), (0,) * 3, 0), (), (0, 1, 0))
        self.no((3, (), (0,) * 3, 0), (), (1, 0, -1))
        self.no(EMPTY, (), (0,))
        self.no(EMPTY, (0,), ())

    def test_by_examples(self):
        self.yes(PATH, (0, 2), (0, 3, 2, 2))
        self.yes(PATH, (0, 2), (0, 3, 4, 0))
        self.yes(PATH, (0, 2), (2, 1, 4, 0))
        # Too small for one tie: the first, the middle, the last one.
        self.no(PATH, (0, 2), (0, 2, 4, 1))
        self.no(PATH, (0, 2), (2, 1, 3, 1))
        self.no(PATH, (0, 2), (0, 4, 3, 0))
        # Enough for each, too great together, by one or more.
        self.no(PATH, (0, 2), (0, 3, 4, 1))
        self.no(PATH, (0, 2), (3, 3, 4, 4))
        # A pairing that isn't heaviest has no prices.
        self.no(PATH, (1,), (0, 3, 4, 0))
        self.no(PATH, (1,), (0, 3, 2, 0))
        self.no(PATH, (), (0, 0, 0, 0))
        self.yes(TWICE, (1,), (8, 0))
        self.yes(TWICE, (1,), (3, 5))
        self.no(TWICE, (0,), (3, 0))
        self.no(TWICE, (0,), (8, 0))

    def test_wrong_pairings(self):
        for pairing in ((2, 0), (0, 0), (0, 2, 2), (0, 1), (1, 2), (0, 3), (-3, 2), [0, 2], (False, 2), (0, None),
                        (0, "2"), ((0,), (2,)), {0: 0, 1: 2}, None, "02", 0):
            self.no(PATH, pairing, (0, 3, 4, 0))
        # Worth the prices, but sharing a thing, or one tie twice.
        self.no(PATH, (0, 1), (0, 4, 4, 0))
        self.no(PATH, (0, 0), (0, 3, 3, 0))
        self.no(PATH, (0, 1), (0, 3, 5, 0))
        self.no(TWICE, (0, 1), (11, 0))

    def test_wrong_prices(self):
        for prices in ((0, 3, 4), (0, 3, 4, 0, 0), (), (-1, 4, 4, 0), (0, 3, 5, -1), [0, 3, 4, 0], (False, 3, 4, 0),
                       (2, True, 4, 0), (0, 3, 4, None), (0, 3, 4, "0"), (0, (3, 1), (4, 1), 0), (0, [3], 4, 0),
                       (0, 3, 4, {}), {0: 0, 1: 3, 2: 4, 3: 0}, None, 7, "0340", ((0, 3, 4, 0),)):
            self.no(PATH, (0, 2), prices)

    def test_wrong_things(self):
        for thing in (None, True, 0, "", (), ((0, 2),), ((0, 2), (0, 3, 4, 0), ()), [(0, 2), (0, 3, 4, 0)],
                      {0: (0, 2), 1: (0, 3, 4, 0)}, ((0, 3, 4, 0), (0, 2)), (None, None), (7, (0, 2), (0, 3, 4, 0))):
            self.assertIs(heaviest_holds(PATH, thing), False, thing)

    def test_great_numbers(self):
        web = (2, ties_between([(0, 1)], [1000]), (0, 0), 0)
        big = 10 ** 59
        self.no(web, (0,), (big, big))
        self.no(web, (0,), (big, 1000 - big))
        self.yes(web, (0,), (999, 1))
        self.yes(web, (0,), (0, 1000))

    def test_webs_without_sides_may_have_papers(self):
        # The tie across is worth no more than what the others' things pay for anyhow.
        web = (3, ties_between([(0, 1), (1, 2), (0, 2)], [5, 5, 0]), (0,) * 3, 0)
        self.yes(web, (0,), (0, 5, 0))
        self.yes(web, (1,), (0, 5, 0))
        self.no(web, (2,), (0, 5, 0))
        # Here prices of one each are too great, and others too small.
        for prices in itertools.product(range(4), repeat=3):
            self.no(THREE, (0,), prices)

    def test_all_small_prices(self):
        for web in [TWICE, THREE, (3, ties_between([(0, 1), (1, 2)], [2, 3]), (0,) * 3, 0)]:
            for pairing in pairings_by_words(web):
                for prices in itertools.product(range(-1, 5), repeat=web[0]):
                    right = heaviest_by_words(web, (pairing, prices))
                    self.assertIs(heaviest_holds(web, (pairing, prices)), right)
                    if right:
                        self.assertEqual(worth_by_ties(web, pairing), heaviest_worth_by_words(web))

    def test_anything(self):
        for web in [EMPTY, PATH, SQUARE, TWICE, (2, (), (0, 0), 0)] + two_sided_webs(331, 4, 6, 6):
            look_over(self, lambda thing: heaviest_holds(web, thing), [heaviest(web)],
                      lambda thing: heaviest_by_words(web, thing))
        for web in (WIDE, GREAT):
            look_over(self, lambda thing: heaviest_holds(web, thing), [heaviest(web)],
                      lambda thing: heaviest_by_words(web, thing), 5)


class Heaviest(unittest.TestCase):
    def look_over_paper(self, web):
        told = heaviest(web)
        self.assertTrue(same(told, heaviest(web)))
        self.assertIs(heaviest_by_words(web, told), True, (web, told))
        self.assertIs(heaviest_holds(web, told), True)
        pairing, prices = told
        self.assertIs(is_pairing(web, pairing), True)
        self.assertEqual(worth_by_ties(web, pairing), heaviest_worth_by_words(web))
        return worth_by_ties(web, pairing)

    def test_by_examples(self):
        self.assertTrue(same(heaviest(EMPTY), ((), ())))
        self.assertTrue(same(heaviest((4, (), (0,) * 4, 0)), ((), (0,) * 4)))
        self.assertEqual(self.look_over_paper(PATH), 7)
        self.assertEqual(heaviest(PATH)[0], (0, 2))
        self.assertEqual(self.look_over_paper(SQUARE), 13)
        self.assertEqual(self.look_over_paper(TWICE), 8)
        self.assertEqual(heaviest(TWICE)[0], (1,))
        self.assertEqual(self.look_over_paper(WIDE), sum(range(10, 16)))
        self.assertEqual(self.look_over_paper(GREAT), 1000)

    def test_worths_alike_zero_and_the_greatest(self):
        pairs = [(one, other) for one in range(4) for other in range(4, 8)]
        for worth in (0, 1, 1000):
            web = (8, ties_between(pairs, [worth] * 16), (0,) * 8, 0)
            self.assertEqual(self.look_over_paper(web), 4 * worth)
        path = [(at, at + 1) for at in range(11)]
        for worths, told in (([1000] * 11, 6000), ([0] * 11, 0), ([0, 1000] * 5 + [0], 5000),
                             ([999, 1000] * 5 + [999], 5994), ([2, 3] * 5 + [2], 15), ([2, 4] * 5 + [2], 20)):
            self.assertEqual(self.look_over_paper((12, ties_between(path, worths), (0,) * 12, 0)), told)

    def test_pairings_of_all_ties(self):
        apart = [(at, at + 6) for at in range(6)]
        web = (12, ties_between(apart, [1, 1000, 7, 3, 999, 2]), (0,) * 12, 0)
        self.assertTrue(same(heaviest(web)[0], (0, 1, 2, 3, 4, 5)))
        self.look_over_paper(web)

    def test_other_than_what_the_order_by_worth_keeps(self):
        unlike = 0
        for web in enough_webs([PATH, SQUARE] + two_sided_webs(332, 150, 12, 16, (5, 6, 7, 8, 9))):
            kept = kept_of(run_order(web, by_worth(web), (True,) * len(web[1])))
            worth = self.look_over_paper(web)
            self.assertLessEqual(worth_by_ties(web, kept), worth)
            self.assertLessEqual(worth, 2 * worth_by_ties(web, kept))
            unlike += worth_by_ties(web, kept) < worth
        self.assertGreater(unlike, 15)

    def test_against_all_pairings(self):
        for web in [PATH, SQUARE, TWICE] + two_sided_webs(333, 30, 8, 8):
            worth = self.look_over_paper(web)
            self.assertEqual(worth, max(worth_by_ties(web, pairing) for pairing in pairings_by_words(web)))

    def test_webs_of_up_to_twelve_things_and_sixteen_ties(self):
        for web in two_sided_webs(334, 250) + two_sided_webs(335, 100, 12, 16, range(1001)):
            self.look_over_paper(web)
        dense = []
        for seed in range(60):
            rng = random.Random(seed)
            pairs = rng.sample([(one, other) for one in range(5) for other in range(5, 10)], 16)
            dense.append((10, ties_between(pairs, [rng.randint(0, 9) for pair in pairs]), (0,) * 10, 0))
        for web in dense:
            self.look_over_paper(web)

    def test_no_heed_of_chances_patience_asks(self):
        for web in [PATH, SQUARE, TWICE] + two_sided_webs(336, 15, 8, 8):
            for chance in CHANCES[:4]:
                ties = tuple(tie[:2] + (chance, tie[3]) for tie in web[1])
                for patience, asks in ((0, 0), (1, 1), (20, 40)):
                    other = (web[0], ties, (patience,) * web[0], asks)
                    self.assertTrue(same(heaviest(other), heaviest(web)))

    def test_refused_without_sides(self):
        self.assertIs(NotTwoSided.__base__, PairsError)
        without = [THREE, WEB, (5, THREE[1], (1,) * 5, 0)]
        without += [web for web in random_webs(337, 100, 12, 16) if sides(web)[0] == "ring"]
        self.assertGreater(len(without), 30)
        for web in without:
            with self.assertRaises(NotTwoSided) as caught:
                heaviest(web)
            self.assertIsInstance(caught.exception, PairsError)
            self.assertIsInstance(caught.exception, ValueError)
            self.assertNotIsInstance(caught.exception, (TooMany, NoRise, NoText))

    def test_refused_for_a_ring_in_the_last_part_alone(self):
        pairs = [(0, 1), (2, 3), (3, 4), (9, 10), (10, 11), (9, 11)]
        web = (12, ties_between(pairs, [1000, 1, 2, 0, 0, 0]), (0,) * 12, 0)
        with self.assertRaises(NotTwoSided):
            heaviest(web)
        self.look_over_paper(put(web, 1, web[1][:5]))


if __name__ == "__main__":
    unittest.main()
