import itertools
import unittest

from askedpairs.chargepaper import charges_hold
from askedpairs.charges import charges_of
from askedpairs.greedy import by_worth, is_enough
from askedpairs.orders import run_order
from askedpairs.runs import kept_of
from tests.helper import (EMPTY, WEB, WIDE, all_charges, charges_by_words, enough_webs, pairings_by_words, put,
                          random_webs, rows_of_answers, same, ties_between, two_sided_webs)

# A path of five ties; the middle one is worth as much as the second, more by one than the fourth.
PATH = (6, ties_between([(0, 1), (1, 2), (2, 3), (3, 4), (4, 5)], [3, 7, 7, 6, 0]), (0,) * 6, 0)


class ChargesOf(unittest.TestCase):
    def look_over_charges(self, web, kept, other):
        told = charges_of(web, kept, other)
        self.assertTrue(same(told, charges_of(web, kept, other)))
        right = all_charges(web, kept, other)
        if told is None:
            self.assertEqual(right, [])
        else:
            self.assertIs(charges_by_words(web, kept, other, told), True)
            self.assertIs(charges_hold(web, kept, other, told), True)
            self.assertIn(told, right)
        return told

    def test_pairings_of_none(self):
        for web in (EMPTY, PATH, WEB, WIDE):
            self.assertTrue(same(charges_of(web, (), ()), ()))
        self.assertTrue(same(charges_of(PATH, (0, 2), ()), ()))
        self.assertIsNone(charges_of(PATH, (), (0,)))
        self.assertIsNone(charges_of(PATH, (), (1, 3)))
        # Even of a tie of no worth.
        self.assertIsNone(charges_of(PATH, (), (4,)))

    def test_kept_and_other_alike(self):
        for pairing in ((0, 2, 4), (1, 3), (0,), (4,)):
            self.assertTrue(same(charges_of(PATH, pairing, pairing), pairing))
        apart = tuple(range(6))
        self.assertTrue(same(charges_of(WIDE, apart, apart), apart))

    def test_just_as_great_and_less_by_one(self):
        self.assertTrue(same(charges_of(PATH, (1,), (2,)), (1,)))
        self.assertTrue(same(charges_of(PATH, (2,), (1,)), (2,)))
        self.assertTrue(same(charges_of(PATH, (2,), (3,)), (2,)))
        self.assertIsNone(charges_of(PATH, (3,), (2,)))
        for worth, told in ((6, None), (7, (0,)), (8, (0,)), (0, None), (1000, (0,))):
            web = put(PATH, 1, put(PATH[1], 0, PATH[1][0][:3] + (worth,)))
            self.assertTrue(same(charges_of(web, (0,), (1,)), told))

    def test_worths_of_zero_and_the_greatest(self):
        for worth in (0, 1000):
            web = (3, ties_between([(0, 1), (1, 2), (0, 1)], [worth] * 3), (0,) * 3, 0)
            for kept, other in itertools.product(range(3), repeat=2):
                self.assertTrue(same(charges_of(web, (kept,), (other,)), (kept,)))

    def test_one_tie_charged_twice(self):
        self.assertTrue(same(charges_of(PATH, (2,), (1, 3)), (2, 2)))
        self.assertTrue(same(charges_of(PATH, (0, 2, 4), (1, 3)), (2, 2)))
        self.assertTrue(same(charges_of(PATH, (1, 3), (0, 2, 4)), (1, 1, 3)))

    def test_a_tie_without_any_charge(self):
        # No thing in common; in common with one that is worth less; the last of other alone.
        self.assertIsNone(charges_of(PATH, (2, 4), (0,)))
        self.assertIsNone(charges_of(PATH, (0,), (1,)))
        self.assertIsNone(charges_of(PATH, (0, 4), (0, 3)))
        self.assertIsNone(charges_of(PATH, (1, 4), (1, 3)))
        self.assertIsNone(charges_of(PATH, (0, 4), (0, 2, 4)))

    def test_either_thing_may_be_in_common(self):
        heavy, light = 9, 2
        for pairs in ([(0, 1), (0, 2)], [(0, 1), (1, 2)], [(0, 2), (1, 2)], [(1, 2), (0, 1)], [(0, 1), (0, 1)]):
            web = (3, ties_between(pairs, [heavy, light]), (0,) * 3, 0)
            self.assertTrue(same(charges_of(web, (0,), (1,)), (0,)))
            self.assertIsNone(charges_of(web, (1,), (0,)))

    def test_all_pairs_of_pairings(self):
        told = {True: 0, False: 0}
        for web in [PATH, WEB] + random_webs(311, 30, 7, 6) + random_webs(312, 4, 12, 9):
            for kept, other in itertools.product(pairings_by_words(web), repeat=2):
                told[self.look_over_charges(web, kept, other) is None] += 1
        self.assertGreater(min(told.values()), 400)

    def test_webs_of_sixteen_ties(self):
        for web in [WIDE] + random_webs(313, 6, 12, 16) + two_sided_webs(314, 4):
            pairings = pairings_by_words(web)
            pairs = list(itertools.product(pairings, repeat=2))
            for kept, other in pairs[::max(1, len(pairs) // 200)]:
                self.look_over_charges(web, kept, other)

    def test_the_order_by_worth_has_charges_where_all_may_be_asked(self):
        webs = [WEB, PATH] + random_webs(315, 25, 8, 7) + two_sided_webs(316, 10, 8, 7)
        for web in enough_webs(webs):
            self.assertIs(is_enough(web), True)
            pairings = pairings_by_words(web)
            for answers in rows_of_answers(web):
                kept = tuple(sorted(kept_of(run_order(web, by_worth(web), answers))))
                for other in pairings:
                    if all(answers[tie] for tie in other):
                        charges = charges_of(web, kept, other)
                        self.assertIs(charges_by_words(web, kept, other, charges), True, (web, answers, other))


if __name__ == "__main__":
    unittest.main()
