import random
import unittest

from askedpairs.stands import is_stand, may_ask
from askedpairs.trees import is_tree, run_tree, stands_of
from tests.helper import (EMPTY, GREAT, TREE, WEB, WIDE, grow_tree, look_over, look_over_run, rows_of_answers, same,
                          stands_by_words, tree_by_words, tree_run_by_words, webs_and_trees)


class IsTree(unittest.TestCase):
    def yes(self, web, thing):
        self.assertIs(is_tree(web, thing), True, thing)

    def no(self, web, thing):
        self.assertIs(is_tree(web, thing), False, thing)

    def test_ordinary_trees(self):
        for web in (WEB, EMPTY, GREAT):
            self.yes(web, ())
        self.yes(WEB, TREE)
        self.yes(WEB, ((0, -1, -1),))
        self.yes(WEB, ((0, 1, 2), (3, -1, -1), (1, -1, -1)))
        self.yes(WEB, ((0, 2, 1), (1, -1, -1), (3, -1, -1)))
        self.yes(WEB, ((0, -1, 1), (1, -1, -1)))
        for web, tree in webs_and_trees(91, 200):
            self.yes(web, tree)

    def test_numbered_across(self):
        # One tree, its nodes numbered in each way that goes upward.
        self.yes(WEB, ((4, 1, 2), (3, -1, -1), (1, -1, 3), (0, -1, -1)))
        self.yes(WEB, ((4, 2, 1), (1, -1, 3), (3, -1, -1), (0, -1, -1)))
        self.yes(WEB, ((4, 3, 1), (1, -1, 2), (0, -1, -1), (3, -1, -1)))
        self.no(WEB, ((4, 3, 2), (0, -1, -1), (1, -1, 1), (3, -1, -1)))

    def test_links(self):
        self.no(WEB, ((0, -1, 0),))
        self.no(WEB, ((0, 0, -1),))
        self.no(WEB, ((0, -1, 1), (1, -1, 0)))
        self.no(WEB, ((0, -1, 1), (1, 1, -1)))
        self.no(WEB, ((0, 1, -1),))
        self.no(WEB, ((0, -1, 1),))
        self.no(WEB, ((0, -1, 2), (1, -1, -1)))
        self.no(WEB, ((0, -2, -1),))
        self.no(WEB, ((0, -1, -2),))
        self.no(WEB, ((0, -1, 1), (3, -1, -2)))

    def test_told_just_once(self):
        self.no(WEB, ((0, -1, -1), (1, -1, -1)))
        self.no(WEB, ((0, -1, 2), (3, -1, -1), (1, -1, -1)))
        self.no(WEB, ((0, 1, 1), (3, -1, -1)))
        self.no(WEB, ((0, 1, 2), (3, -1, 2), (3, -1, -1)))

    def test_ties(self):
        self.yes(WEB, ((4, -1, -1),))
        self.no(WEB, ((5, -1, -1),))
        self.no(WEB, ((-1, -1, -1),))
        self.no(EMPTY, ((0, -1, -1),))

    def test_a_tie_that_may_not_be_asked(self):
        # Asked already, a thing taken.
        self.no(WEB, ((0, -1, 1), (0, -1, -1)))
        self.no(WEB, ((0, 1, -1), (0, -1, -1)))
        self.no(WEB, ((0, 1, -1), (1, -1, -1)))
        self.no(WEB, ((0, 1, -1), (4, -1, -1)))
        self.no(WEB, ((0, 1, -1), (2, -1, -1)))
        self.yes(WEB, ((0, -1, 1), (2, -1, -1)))
        self.yes(WEB, ((0, 1, -1), (3, -1, -1)))
        # Whatever the chance: behind a yes that can't come, too.
        self.no(WEB, ((4, 1, -1), (0, -1, -1)))
        self.yes(WEB, ((4, -1, 1), (0, -1, -1)))

    def test_patience_just_met_and_one_below(self):
        ties = ((0, 1, (1, 2), 1), (0, 2, (1, 2), 1), (0, 3, (1, 2), 1))
        tree = ((2, -1, 1), (0, -1, 2), (1, -1, -1))
        for patience in range(5):
            self.assertIs(is_tree((4, ties, (patience, 1, 1, 1), 9), tree), patience >= 3)
        self.no((4, ties, (3, 1, 0, 1), 9), tree)

    def test_asks_just_met_and_one_below(self):
        tree = ((2, -1, 1), (0, -1, 2), (1, -1, -1))
        for asks in range(5):
            self.assertIs(is_tree((GREAT[0], GREAT[1], GREAT[2], asks), tree), asks >= 3)

    def test_how_many_nodes(self):
        for seed in range(3):
            rng = random.Random(seed)
            for most in (299, 300, 301, 350):
                tree = grow_tree(rng, WIDE, most)
                self.assertEqual(len(tree), most)
                self.assertIs(is_tree(WIDE, tree), most <= 300)

    def test_wrong_kinds(self):
        for thing in (None, True, 0, "", "tree", [], {}, [(0, -1, -1)], {0: (0, -1, -1)}, ([0, -1, -1],),
                      (None,), ("012",), ({},), (True,), (0, -1, -1), ((0, -1),), ((0, -1, -1, -1),), ((),),
                      ((True, -1, -1),), ((False, -1, -1),), ((None, -1, -1),), (("0", -1, -1),), (((0,), -1, -1),),
                      (([], -1, -1),), (({}, -1, -1),), ((0, None, -1),), ((0, -1, None),), ((0, "", -1),),
                      ((0, -1, []),), ((0, -1, {}),), ((0, False, -1),), ((0, True, -1), (3, -1, -1)),
                      ((0, -1, True), (3, -1, -1)), ((0, (1,), -1), (3, -1, -1))):
            self.no(WEB, thing)

    def test_anything(self):
        for web, tree in [(WEB, TREE), (EMPTY, ())] + webs_and_trees(92, 12, 7):
            look_over(self, lambda thing: is_tree(web, thing), [tree], lambda thing: tree_by_words(web, thing))

    def test_trees_of_other_webs(self):
        told = webs_and_trees(93, 60)
        for web, own in told:
            for other, tree in told:
                self.assertIs(is_tree(web, tree), tree_by_words(web, tree))


class Stands(unittest.TestCase):
    def test_by_examples(self):
        self.assertTrue(same(stands_of(WEB, ()), ()))
        self.assertTrue(same(stands_of(WEB, ((3, -1, -1),)), (((), ()),)))
        told = (((), ()), ((0,), ()), ((0,), (0, 1)), ((0, 1), ()), ((0, 1, 4), (0, 1)), ((0, 1, 4), ()))
        self.assertTrue(same(stands_of(WEB, TREE), told))

    def test_all_nodes(self):
        for web, tree in webs_and_trees(94, 200) + [(WIDE, grow_tree(random.Random(9), WIDE, 310))]:
            stands = stands_of(web, tree)
            self.assertTrue(same(stands, stands_by_words(web, tree)))
            for stand, node in zip(stands, tree):
                self.assertIs(is_stand(web, stand), True)
                self.assertIs(may_ask(web, stand, node[0]), True)


class Runs(unittest.TestCase):
    def test_by_examples(self):
        self.assertTrue(same(run_tree(WEB, (), (True,) * 5), ()))
        self.assertTrue(same(run_tree(WEB, TREE, (True,) * 5), ((0, True), (3, True))))
        self.assertTrue(same(run_tree(WEB, TREE, (False,) * 5), ((0, False), (1, False), (4, False), (3, False))))
        # Behind a yes of chance 0, and a no of chance 1.
        answers = (False, False, True, False, True)
        self.assertTrue(same(run_tree(WEB, TREE, answers), ((0, False), (1, False), (4, True), (3, False))))

    def test_all_answers(self):
        for web, tree in webs_and_trees(95, 120):
            for answers in rows_of_answers(web):
                run = run_tree(web, tree, answers)
                self.assertTrue(same(run, tree_run_by_words(tree, answers)))
                self.assertTrue(same(run, run_tree(web, tree, answers)))

    def test_no_run_asks_too_much(self):
        for web, tree in webs_and_trees(96, 120):
            for answers in rows_of_answers(web):
                look_over_run(self, web, run_tree(web, tree, answers))


if __name__ == "__main__":
    unittest.main()
