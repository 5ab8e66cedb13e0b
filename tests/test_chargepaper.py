import itertools
import unittest

from askedpairs.chargepaper import charges_hold, is_pairing
from askedpairs.runs import worth_kept
from tests.helper import (EMPTY, GREAT, WEB, WIDE, all_charges, charges_by_words, look_over, pairing_by_words,
                          pairings_by_words, random_webs)

# A path of five ties; the middle one is worth as much as the second, more by one than the fourth.
PATH = (6, ((0, 1, (1, 2), 3), (1, 2, (0, 1), 7), (2, 3, (1, 1), 7), (3, 4, (1, 2), 6), (4, 5, (1, 3), 0)),
        (0,) * 6, 0)


class IsPairing(unittest.TestCase):
    def test_none_some_and_all_ties(self):
        for web in (EMPTY, WEB, GREAT, WIDE, PATH):
            self.assertIs(is_pairing(web, ()), True)
        for thing in ((0,), (4,), (0, 2), (0, 2, 4), (1, 3), (1, 4), (0, 3)):
            self.assertIs(is_pairing(PATH, thing), True)
        self.assertIs(is_pairing(WIDE, (0, 1, 2, 3, 4, 5)), True)
        self.assertIs(is_pairing((4, ((0, 1, (1, 2), 3), (2, 3, (0, 1), 0)), (0,) * 4, 0), (0, 1)), True)

    def test_no_pairings(self):
        for thing in ((0, 1), (1, 2), (0, 1, 2), (0, 2, 3), (2, 0), (4, 0), (0, 0), (2, 2), (5,), (0, 5), (-1,),
                      (-1, 0), (True,), (0, True), (False,), (False, 2), (None,), ("0",), ((0,),), ([],), ({},),
                      [], [0], [0, 2], {}, {0: 2}, None, True, False, 0, "", "02", ((0, 2),), (0, (2,))):
            self.assertIs(is_pairing(PATH, thing), False, thing)
        self.assertIs(is_pairing(EMPTY, (0,)), False)
        # Two ties of the same things.
        self.assertIs(is_pairing(WEB, (0, 4)), False)
        self.assertIs(is_pairing(WIDE, (0, 6)), False)

    def test_all_rows_of_ties(self):
        for web in [WEB, PATH] + random_webs(301, 20, 6, 4):
            for size in range(4):
                for thing in itertools.product(range(-1, len(web[1]) + 1), repeat=size):
                    self.assertIs(is_pairing(web, thing), pairing_by_words(web, thing))

    def test_anything(self):
        for web, good in ((EMPTY, [()]), (WEB, [(), (0, 3), (2,)]), (PATH, [(0, 2, 4), (1, 3)]),
                          (WIDE, [(0, 1, 2, 3, 4, 5), (5, 6, 14)])):
            look_over(self, lambda thing: is_pairing(web, thing), good, lambda thing: pairing_by_words(web, thing))


class ChargesHold(unittest.TestCase):
    def yes(self, kept, other, thing):
        self.assertIs(charges_hold(PATH, kept, other, thing), True, thing)

    def no(self, kept, other, thing):
        self.assertIs(charges_hold(PATH, kept, other, thing), False, thing)

    def test_pairings_of_none(self):
        self.yes((), (), ())
        self.yes((0, 2), (), ())
        self.no((), (0,), ())
        self.no((), (0,), (0,))
        self.no((0, 2), (), (0,))
        self.assertIs(charges_hold(EMPTY, (), (), ()), True)
        self.assertIs(charges_hold(EMPTY, (), (), (0,)), False)

    def test_kept_and_other_alike(self):
        self.yes((0, 2, 4), (0, 2, 4), (0, 2, 4))
        self.yes((1, 3), (1, 3), (1, 3))
        self.no((0, 2, 4), (0, 2, 4), (0, 4, 2))
        self.no((0, 2, 4), (0, 2, 4), (2, 2, 2))

    def test_worth_at_least_as_much(self):
        # Alike worths, a worth less by one, more by one.
        self.yes((1,), (2,), (1,))
        self.yes((2,), (1,), (2,))
        self.yes((2,), (3,), (2,))
        self.no((3,), (2,), (3,))
        # One tie may be charged twice, whatever it is worth itself.
        self.yes((2,), (1, 3), (2, 2))
        self.yes((1, 3), (0, 2, 4), (1, 1, 3))
        self.no((1, 3), (0, 2, 4), (1, 3, 3))
        self.no((0, 2, 4), (1, 3), (0, 2))
        self.yes((0, 2, 4), (1, 3), (2, 2))
        self.no((0, 2, 4), (1, 3), (2, 4))

    def test_wrong_charges(self):
        # No thing in common, not of kept, beyond the web, too few, too many.
        self.no((2, 4), (0,), (2,))
        self.no((2,), (3,), (3,))
        self.no((2,), (1,), (1,))
        self.no((1, 3), (0, 2), (0, 2))
        for thing in ((5,), (-1,), (-4,), (), (2, 2), (True,), (None,), ("2",), ((2,),), ([2],), ({},), [2], {0: 2},
                      2, None, True, "", "2", (2, None)):
            self.no((2,), (1,), thing)
        # True is no tie, though to Python it is 1.
        self.yes((1,), (0,), (1,))
        self.no((1,), (0,), (True,))
        self.no((0,), (0,), (False,))

    def test_anything(self):
        for web in [PATH, WEB] + random_webs(302, 6, 6, 5):
            pairings = pairings_by_words(web)
            for kept, other in itertools.islice(itertools.product(pairings, repeat=2), 0, None, 23):
                look_over(self, lambda thing: charges_hold(web, kept, other, thing),
                          all_charges(web, kept, other), lambda thing: charges_by_words(web, kept, other, thing))

    def test_all_rows_of_ties(self):
        for web in [PATH, WEB] + random_webs(303, 10, 6, 4):
            for kept, other in itertools.product(pairings_by_words(web), repeat=2):
                for thing in itertools.product(range(len(web[1])), repeat=min(len(other), 2)):
                    right = charges_by_words(web, kept, other, thing)
                    self.assertIs(charges_hold(web, kept, other, thing), right)
                    if right:
                        heavy, light = ([(tie, True) for tie in row] for row in (kept, other))
                        self.assertLessEqual(worth_kept(web, light), 2 * worth_kept(web, heavy))


if __name__ == "__main__":
    unittest.main()
