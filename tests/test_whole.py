"""What the document promises over the whole program, in its third point."""

import random
import unittest
from fractions import Fraction

from askedpairs.bounds import bound
from askedpairs.charges import charges_of
from askedpairs.greedy import by_worth, is_enough
from askedpairs.layers import order_worth
from askedpairs.orders import run_order
from askedpairs.pairings import heaviest
from askedpairs.runs import kept_of, worth_kept
from askedpairs.sides import sides
from askedpairs.tables import best_worth
from askedpairs.trees import run_tree
from tests.helper import (EMPTY, WEB, WIDE, enough_webs, grow_tree, heaviest_worth_by_words, pair_of, random_webs,
                          rows_of_answers, same, ties_between, two_sided_webs, with_ties, worth_by_ties)


class ByWorth(unittest.TestCase):
    """(f) Where patience and asks are enough, the order by worth keeps at least half."""

    def test_at_each_row_of_answers(self):
        rng = random.Random(401)
        webs = [WEB, with_ties(WIDE, 8)] + random_webs(401, 30, 8, 8) + two_sided_webs(402, 10, 10, 9)
        for web in enough_webs(webs):
            self.assertIs(is_enough(web), True)
            trees = [grow_tree(rng, web, 40) for at in range(3)]
            for answers in rows_of_answers(web):
                kept = worth_kept(web, run_order(web, by_worth(web), answers))
                said_yes = [tie for tie, truth in enumerate(answers) if truth]
                self.assertLessEqual(heaviest_worth_by_words(web, said_yes), 2 * kept)
                for tree in trees:
                    run = run_tree(web, tree, answers)
                    self.assertLessEqual(worth_kept(web, run), 2 * kept)
                    other = tuple(sorted(kept_of(run)))
                    mine = tuple(sorted(kept_of(run_order(web, by_worth(web), answers))))
                    self.assertIsNotNone(charges_of(web, mine, other))

    def test_on_the_average(self):
        for web in enough_webs([WEB, EMPTY] + random_webs(403, 60, 7, 7)):
            self.assertGreaterEqual(2 * Fraction(*order_worth(web, by_worth(web))), Fraction(*best_worth(web)))

    def test_just_half_and_less_where_it_is_not_enough(self):
        # The heavier one by one takes both things of the others.
        ties = ties_between([(0, 1), (1, 2), (2, 3)], [999, 1000, 999], (1, 1))
        web = (4, ties, (1, 2, 2, 1), 3)
        self.assertTrue(same(order_worth(web, by_worth(web)), (1000, 1)))
        self.assertTrue(same(best_worth(web), (1998, 1)))
        # One ask in all: the greatest worth may have next to no chance.
        web = (4, ((0, 1, (1, 100), 1000), (2, 3, (1, 1), 999)), (1,) * 4, 1)
        self.assertIs(is_enough(web), False)
        self.assertLess(2 * Fraction(*order_worth(web, by_worth(web))), Fraction(*best_worth(web)))


def sure_webs(webs, rng):
    """The same webs with all chances one, each thing's patience at least 1, just half as many asks as things."""
    told = []
    for things, ties, patience, asks in webs:
        ties = tuple(tie[:2] + ((1, 1), tie[3]) for tie in ties)
        told.append((things, ties, tuple(rng.choice((1, 1, 2, 20)) for at in patience), (things + 1) // 2))
    return told


class Sure(unittest.TestCase):
    """(h) Where all chances are one, the best worth is that of the heaviest pairing."""

    def test_the_best_worth(self):
        rng = random.Random(411)
        webs = [EMPTY, WEB, with_ties(WIDE, 7), (3, (), (0,) * 3, 0)]
        told = {"sides": 0, "ring": 0}
        for web in sure_webs(webs + random_webs(411, 60, 7, 7) + two_sided_webs(412, 30, 12, 7), rng):
            worth = heaviest_worth_by_words(web)
            self.assertTrue(same(best_worth(web), (worth, 1)), web)
            told[sides(web)[0]] += 1
            if sides(web)[0] == "sides":
                self.assertEqual(worth_by_ties(web, heaviest(web)[0]), worth)
                self.assertTrue(same(bound(web)[0], (worth, 1)))
        self.assertGreater(min(told.values()), 15)

    def test_the_bound(self):
        rng = random.Random(413)
        for web in sure_webs([with_ties(WIDE, 10)] + two_sided_webs(413, 100, 12, 10), rng):
            worth = worth_by_ties(web, heaviest(web)[0])
            self.assertEqual(worth, heaviest_worth_by_words(web))
            self.assertTrue(same(bound(web)[0], (worth, 1)))

    def test_without_sides_the_bound_may_be_more(self):
        web = (3, ties_between([(0, 1), (1, 2), (0, 2)], [1000] * 3, (1, 1)), (1,) * 3, 2)
        self.assertTrue(same(best_worth(web), (1000, 1)))
        self.assertTrue(same(bound(web)[0], (1500, 1)))

    def test_with_too_few_asks_or_no_patience_it_may_be_less(self):
        ties = ties_between([(0, 1), (2, 3)], [5, 6], (1, 1))
        for patience, asks, told in (((1,) * 4, 2, 11), ((1,) * 4, 1, 6), ((0, 1, 1, 1), 2, 6), ((1, 1, 1, 0), 2, 5)):
            web = (4, ties, patience, asks)
            self.assertTrue(same(best_worth(web), pair_of(told)))
            self.assertEqual(worth_by_ties(web, heaviest(web)[0]), 11)


if __name__ == "__main__":
    unittest.main()
