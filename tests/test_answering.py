import itertools
import random
import unittest
from fractions import Fraction

from askedpairs.answering import by_answers, chance_of
from askedpairs.errors import TooMany
from askedpairs.orders import run_order
from askedpairs.runs import answers_of, worth_kept
from askedpairs.trees import run_tree
from askedpairs.worths import worth_of
from tests.helper import (EMPTY, GREAT, TREE, WEB, WIDE, chance_by_words, grow_tree, pair_of, random_webs,
                          rows_of_answers, same, tree_run_by_words, webs_and_trees, with_ties)


class ChanceOf(unittest.TestCase):
    def test_by_examples(self):
        self.assertTrue(same(chance_of(EMPTY, ()), (1, 1)))
        self.assertTrue(same(chance_of(WEB, (True, False, True, True, False)), (1, 4)))
        self.assertTrue(same(chance_of(WEB, (False, True, False, True, False)), (1, 24)))
        self.assertTrue(same(chance_of(WEB, (True, True, True, False, False)), (0, 1)))
        self.assertTrue(same(chance_of(WEB, (True, True, True, True, True)), (0, 1)))

    def test_all_rows_of_answers(self):
        for web in [WEB] + random_webs(131, 40):
            total = Fraction(0)
            for answers in rows_of_answers(web):
                told = chance_of(web, answers)
                self.assertTrue(same(told, pair_of(chance_by_words(web, answers))))
                total += Fraction(*told)
            self.assertEqual(total, 1)


class ByAnswers(unittest.TestCase):
    def test_by_examples(self):
        self.assertTrue(same(by_answers(EMPTY, ()), (0, 1)))
        self.assertTrue(same(by_answers(WEB, ()), (0, 1)))
        self.assertTrue(same(by_answers(WEB, ((0, 1, 2), (3, -1, -1), (1, -1, -1))), (71, 6)))

    def test_one_worth_by_every_way(self):
        for web, tree in [(WEB, TREE)] + webs_and_trees(132, 120):
            average = Fraction(0)
            for answers in rows_of_answers(web):
                kept = sum(web[1][tie][3] for tie, truth in tree_run_by_words(tree, answers) if truth)
                average += chance_by_words(web, answers) * kept
            self.assertTrue(same(by_answers(web, tree), pair_of(average)))
            self.assertTrue(same(worth_of(web, tree), pair_of(average)))

    def test_ten_ties_and_eleven(self):
        web = with_ties(WIDE, 10)
        tree = grow_tree(random.Random(133), web, 60)
        self.assertTrue(same(by_answers(web, tree), worth_of(web, tree)))
        for many in (11, 12, 16):
            for tree in ((), ((0, -1, -1),)):
                for web in (with_ties(WIDE, many), with_ties(GREAT, many)):
                    with self.assertRaises(TooMany):
                        by_answers(web, tree)

    def test_refused_ahead_of_any_other_work(self):
        # All rows of forty answers could never be gone through.
        web = (2, ((0, 1, (1, 2), 1),) * 40, (20, 20), 40)
        with self.assertRaises(TooMany):
            by_answers(web, ())

    def test_over_all_rolls_the_average_is_the_worth(self):
        ties = ((0, 1, (1, 2), 10), (1, 2, (2, 3), 20), (0, 2, (3, 5), 5), (2, 3, (1, 1), 7))
        web = (4, ties, (2, 3, 2, 1), 3)
        tree = ((0, 2, 1), (1, -1, 3), (3, -1, -1), (2, -1, -1))
        rolls = list(itertools.product(*[range(tie[2][1]) for tie in ties]))
        kept = sum(worth_kept(web, run_tree(web, tree, answers_of(web, row))) for row in rolls)
        self.assertTrue(same(worth_of(web, tree), pair_of(Fraction(kept, len(rolls)))))

    def test_an_order_and_its_tree_are_worth_the_same(self):
        # Of a web where each ask is let by whatever is said, but for a taken thing.
        web = (4, ((0, 1, (1, 3), 10), (2, 3, (1, 2), 20), (1, 2, (3, 4), 5)), (9,) * 4, 9)
        tree = ((0, 1, 2), (1, -1, -1), (1, -1, 3), (2, -1, -1))
        average = sum(chance_by_words(web, answers) * worth_kept(web, run_order(web, (0, 1, 2), answers))
                      for answers in rows_of_answers(web))
        self.assertTrue(same(by_answers(web, tree), pair_of(average)))


if __name__ == "__main__":
    unittest.main()
