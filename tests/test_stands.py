import itertools
import random
import unittest

from askedpairs.stands import is_stand, may_ask, stand_behind
from tests.helper import (EMPTY, GREAT, WEB, look_over, look_over_run, may_by_words, random_webs, same,
                          stand_by_words)

FIRST = ((), ())


def rising_rows(many):
    return [row for size in range(many + 1) for row in itertools.combinations(range(many), size)]


def all_pairs(web):
    return [(asked, taken) for asked in rising_rows(len(web[1])) for taken in rising_rows(web[0])]


def stands_come(web):
    """All stands that may come, each with the asks that led there, by trying all asks and answers."""
    come = {FIRST: ()}
    waiting = [FIRST]
    while waiting:
        stand = waiting.pop()
        for tie in range(len(web[1])):
            if may_by_words(web, stand, tie):
                for truth in (True, False):
                    behind = stand_behind(web, stand, tie, truth)
                    if behind not in come:
                        come[behind] = come[stand] + ((tie, truth),)
                        waiting.append(behind)
    return come


class IsStand(unittest.TestCase):
    def yes(self, web, thing):
        self.assertIs(is_stand(web, thing), True, thing)

    def no(self, web, thing):
        self.assertIs(is_stand(web, thing), False, thing)

    def test_the_first_stand(self):
        for web in (WEB, EMPTY, GREAT):
            self.yes(web, FIRST)

    def test_ordinary_stands(self):
        self.yes(WEB, ((0,), ()))
        self.yes(WEB, ((0,), (0, 1)))
        self.yes(WEB, ((0, 3), (0, 1, 2, 3)))
        # Which ties said yes isn't looked at.
        self.yes(WEB, ((0, 3), (0, 3)))

    def test_rows_that_do_not_rise(self):
        self.no(WEB, ((1, 0), ()))
        self.no(WEB, ((0, 0), ()))
        self.no(WEB, ((0,), (1, 0)))
        self.no(WEB, ((0,), (0, 0)))
        self.no(WEB, ((0, 1), (0, 0, 1, 2)))

    def test_beyond_the_web(self):
        self.yes(WEB, ((4,), ()))
        self.no(WEB, ((5,), ()))
        self.no(WEB, ((-1,), ()))
        self.yes(WEB, ((3,), (2, 3)))
        self.no(WEB, ((3,), (3, 4)))
        self.no(WEB, ((3,), (-1, 3)))

    def test_patience(self):
        ties = ((0, 1, (1, 2), 1), (0, 2, (1, 2), 1), (0, 3, (1, 2), 1))
        for patience in range(4):
            web = (4, ties, (patience, 1, 1, 1), 3)
            self.assertIs(is_stand(web, ((0, 1, 2), ())), patience >= 3)
            self.assertIs(is_stand(web, ((0, 2), ())), patience >= 2)
            self.assertIs(is_stand(web, ((2,), ())), patience >= 1)
        self.no((4, ties, (3, 1, 1, 0), 3), ((2,), ()))

    def test_asks(self):
        for asks in range(5):
            web = (GREAT[0], GREAT[1], GREAT[2], asks)
            self.assertIs(is_stand(web, ((0, 1, 2), ())), asks >= 3)
            self.assertIs(is_stand(web, FIRST), True)

    def test_taken(self):
        self.no(WEB, ((), (0, 1)))
        self.no(WEB, ((0,), (0, 2)))
        self.no(WEB, ((0,), (0,)))
        self.no(WEB, ((0, 3), (0, 1, 2)))

    def test_wrong_kinds(self):
        for thing in (None, (), ((),), ((), (), ()), [(), ()], ([], ()), ((), []), ({}, ()), ("", ()), ((), ""),
                      ((False,), ()), ((True,), ()), ((3,), (2, True)), ((0,), (False, 1)), (((0,),), ()),
                      ((None,), ()), (("0",), ()), (0, 0), ((0.5,), ()), (([],), ())):
            self.no(WEB, thing)

    def test_all_rising_rows(self):
        for web in [WEB] + random_webs(61, 25, 4, 5, 3):
            for pair in all_pairs(web):
                self.assertIs(is_stand(web, pair), stand_by_words(web, pair), (web, pair))

    def test_anything(self):
        for web in [WEB, EMPTY, GREAT] + random_webs(66, 5):
            good = sorted(stands_come(web))[::7][:12] if web != GREAT else [((0, 1, 5), (0, 11))]
            look_over(self, lambda thing: is_stand(web, thing), good, lambda thing: stand_by_words(web, thing))


class MayAsk(unittest.TestCase):
    def test_all_rising_rows(self):
        for web in [WEB] + random_webs(62, 25, 4, 5, 3):
            for stand in all_pairs(web):
                for tie in range(len(web[1])):
                    told = may_ask(web, stand, tie)
                    self.assertIs(told, may_by_words(web, stand, tie), (web, stand, tie))
                    self.assertIs(may_ask(web, stand, tie), told)

    def test_asked_or_taken(self):
        web = (4, ((0, 1, (1, 2), 1), (1, 2, (1, 2), 1), (2, 3, (1, 2), 1), (0, 1, (0, 1), 1)), (9, 9, 9, 9), 9)
        self.assertIs(may_ask(web, FIRST, 0), True)
        self.assertIs(may_ask(web, ((0,), ()), 0), False)
        # Another tie of the same things is another tie.
        self.assertIs(may_ask(web, ((0,), ()), 3), True)
        self.assertIs(may_ask(web, ((0,), (0, 1)), 3), False)
        self.assertIs(may_ask(web, ((0,), (0, 1)), 1), False)
        self.assertIs(may_ask(web, ((0,), (0, 1)), 2), True)
        # No stand: a thing taken by no tie, an odd number of them.
        self.assertIs(may_ask(web, ((), (3,)), 2), False)
        self.assertIs(may_ask(web, ((), (3,)), 1), True)

    def test_patience_just_met_and_one_below(self):
        ties = ((0, 1, (1, 2), 1), (0, 2, (1, 2), 1), (1, 2, (1, 2), 1))
        for first in range(4):
            for second in range(4):
                web = (3, ties, (first, 9, second), 9)
                self.assertIs(may_ask(web, ((0,), ()), 1), first > 1 and second > 0)
                self.assertIs(may_ask(web, ((0, 2), ()), 1), first > 1 and second > 1)
                self.assertIs(may_ask(web, FIRST, 0), first > 0)

    def test_asks_just_met_and_one_below(self):
        for asks in range(6):
            web = (GREAT[0], GREAT[1], GREAT[2], asks)
            for many in range(6):
                self.assertIs(may_ask(web, (tuple(range(many)), ()), 9), many < asks)


class StandBehind(unittest.TestCase):
    def test_by_examples(self):
        self.assertEqual(stand_behind(WEB, FIRST, 3, True), ((3,), (2, 3)))
        self.assertEqual(stand_behind(WEB, FIRST, 3, False), ((3,), ()))
        self.assertEqual(stand_behind(WEB, ((3,), (2, 3)), 0, True), ((0, 3), (0, 1, 2, 3)))
        self.assertEqual(stand_behind(WEB, ((3,), (2, 3)), 0, False), ((0, 3), (2, 3)))
        self.assertEqual(stand_behind(WEB, ((0, 3), ()), 2, True), ((0, 2, 3), (0, 2)))

    def test_all_stands(self):
        for web in [WEB] + random_webs(63, 30, 5, 5, 3):
            for stand in stands_come(web):
                for tie in range(len(web[1])):
                    if may_ask(web, stand, tie):
                        one, other = web[1][tie][:2]
                        asked = tuple(sorted(set(stand[0]) | {tie}))
                        taken = tuple(sorted(set(stand[1]) | {one, other}))
                        self.assertTrue(same(stand_behind(web, stand, tie, False), (asked, stand[1])))
                        self.assertTrue(same(stand_behind(web, stand, tie, True), (asked, taken)))

    def test_what_is_handed_in_stays(self):
        stand = ((0, 3), (2, 3))
        stand_behind(WEB, stand, 1, True)
        self.assertEqual(stand, ((0, 3), (2, 3)))


class NothingTwice(unittest.TestCase):
    def test_every_stand_that_may_come(self):
        for web in [WEB] + random_webs(64, 40, 5, 6, 3):
            for stand, run in stands_come(web).items():
                self.assertIs(is_stand(web, stand), True)
                ties = [tie for tie, truth in run]
                taken = [thing for tie, truth in run if truth for thing in web[1][tie][:2]]
                self.assertEqual(stand, (tuple(sorted(ties)), tuple(sorted(taken))))
                look_over_run(self, web, run)

    def test_asks_by_may_ask_alone_stay_stands(self):
        rng = random.Random(65)
        for web in random_webs(65, 200, 12, 16, 20):
            stand = FIRST
            for tie in rng.choices(range(len(web[1])), k=40) if web[1] else []:
                if may_ask(web, stand, tie):
                    stand = stand_behind(web, stand, tie, rng.random() < 0.4)
                    self.assertIs(stand_by_words(web, stand), True)
                    self.assertIs(is_stand(web, stand), True)


if __name__ == "__main__":
    unittest.main()
