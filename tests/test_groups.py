import itertools
import random
import unittest

from askedpairs.answering import by_answers
from askedpairs.errors import PairsError, TooMany
from askedpairs.groups import is_groups, together_answers, together_worth
from askedpairs.trees import is_tree
from askedpairs.worths import worth_of
from tests.helper import (EMPTY, GREAT, TREE, WEB, WIDE, groups_by_words, grow_tree, look_over, pair_of, random_webs,
                          same, single_groups, ties_between, ties_say, together_worth_by_words, webs_and_groups,
                          webs_and_trees, with_ties)

# Ties 0, 1 and 3 have one chance, 2 and 4 another.
MIXED = (4, ((0, 1, (1, 2), 3), (2, 3, (1, 2), 4), (1, 2, (1, 3), 5), (0, 3, (1, 2), 6), (0, 2, (1, 3), 7)), (3,) * 4, 5)


def partitions(many):
    """All ways to put so many ties into groups."""
    if many == 0:
        yield ()
        return
    for groups in partitions(many - 1):
        for at in range(len(groups)):
            yield groups[:at] + (groups[at] + (many - 1,),) + groups[at + 1:]
        yield groups + ((many - 1,),)


class IsGroups(unittest.TestCase):
    def test_by_examples(self):
        self.assertIs(is_groups(EMPTY, ()), True)
        self.assertIs(is_groups((3, (), (0,) * 3, 0), ()), True)
        for groups in (((0,), (1,), (2,), (3,), (4,)), ((0, 1), (2,), (3,), (4,)), ((0, 1, 3), (2, 4)),
                       ((0, 3), (1,), (2, 4)), ((0,), (1, 3), (2,), (4,))):
            self.assertIs(is_groups(MIXED, groups), True)
        for web in (WEB, WIDE, GREAT, MIXED):
            self.assertIs(is_groups(web, single_groups(web)), True)
        self.assertIs(is_groups(GREAT, (tuple(range(16)),)), True)

    def test_wrong_groups(self):
        for groups in (((0, 1, 3),), ((0, 1), (2, 4)), ((0, 1, 3), (2,)), ((1, 3), (2, 4)), (),
                       # A tie twice, in one group or in two; one beyond the web.
                       ((0, 1, 3), (2, 4), (4,)), ((0, 1, 1, 3), (2, 4)), ((0, 1, 3), (1,), (2, 4)),
                       ((0, 1, 3), (2, 4), (5,)), ((-1,), (0, 1, 3), (2, 4)), ((0, 1, 3), (2, 4, 5)),
                       # Not rising, within a group or by the first ties.
                       ((1, 0, 3), (2, 4)), ((0, 3, 1), (2, 4)), ((0, 1, 3), (4, 2)), ((2, 4), (0, 1, 3)),
                       ((0, 1), (3,), (2, 4)), ((0,), (2,), (1,), (3,), (4,)),
                       # Empty ones, unlike chances.
                       ((), (0, 1, 3), (2, 4)), ((0, 1, 3), (2, 4), ()), ((0, 1, 3), (), (2, 4)), ((),),
                       ((0, 1, 2, 3), (4,)), ((0, 1, 3, 4), (2,)), ((0, 1), (2, 3), (4,)), ((0, 1, 2, 3, 4),),
                       ((0, 2), (1, 3), (4,)),
                       # Other kinds.
                       [(0, 1, 3), (2, 4)], ([0, 1, 3], (2, 4)), ((0, 1, 3), [2, 4]), ((False, 1, 3), (2, 4)),
                       ((0, True, 3), (2, 4)), ((0, 1, 3), (2, None)), ((0, 1, 3), ("2", 4)), ((0, 1, 3), (2, (4,))),
                       ((0, 1, 3), 2, 4), (0, 1, 2, 3, 4), {0: (0, 1, 3), 1: (2, 4)}, ((0, 1, 3), {}), ((0, 1, 3), None),
                       None, True, 0, "", "01", ((0, 1, 3), "24"), (((0, 1, 3), (2, 4)),)):
            self.assertIs(is_groups(MIXED, groups), False, groups)
        for thing in (((),), ((0,),), [], None, {}, ""):
            self.assertIs(is_groups(EMPTY, thing), False)

    def test_all_partitions(self):
        told = {True: 0, False: 0}
        for web in [MIXED, WEB] + random_webs(501, 10, 5, 5):
            for groups in partitions(len(web[1])):
                for other in (groups, groups[::-1], groups[1:], groups + groups[:1]):
                    self.assertIs(is_groups(web, other), groups_by_words(web, other))
                    told[is_groups(web, other)] += 1
        self.assertGreater(min(told.values()), 25)

    def test_alike_chances_alone(self):
        # To Python (1, 2) and (2, 4) are unlike, and so they are here: chances are in lowest terms.
        for one, other in itertools.product(((0, 1), (1, 1), (1, 2), (1, 3), (2, 3), (50, 99), (49, 99)), repeat=2):
            web = (2, ((0, 1, one, 3), (0, 1, other, 3)), (2, 2), 2)
            self.assertIs(is_groups(web, ((0, 1),)), one == other)

    def test_anything(self):
        for web, groups in ((EMPTY, ()), (MIXED, ((0, 1, 3), (2, 4))), (MIXED, ((0,), (1, 3), (2,), (4,))),
                            (WEB, single_groups(WEB)), (GREAT, (tuple(range(0, 16, 2)), tuple(range(1, 16, 2))))):
            look_over(self, lambda thing: is_groups(web, thing), [groups], lambda thing: groups_by_words(web, thing))


class TogetherAnswers(unittest.TestCase):
    def test_by_examples(self):
        self.assertTrue(same(together_answers(EMPTY, (), ()), ()))
        groups = ((0, 1, 3), (2, 4))
        self.assertTrue(same(together_answers(MIXED, groups, (True, False)), (True, True, False, True, False)))
        self.assertTrue(same(together_answers(MIXED, groups, (False, True)), (False, False, True, False, True)))

    def test_by_words(self):
        for web, groups in [(WEB, single_groups(WEB))] + webs_and_groups(502, 40):
            for answers in itertools.product((True, False), repeat=len(groups)):
                self.assertTrue(same(together_answers(web, groups, answers), ties_say(web, groups, answers)))
                if groups == single_groups(web):
                    self.assertTrue(same(together_answers(web, groups, answers), answers))


class TogetherWorth(unittest.TestCase):
    def test_by_examples(self):
        self.assertTrue(same(together_worth(EMPTY, (), ()), (0, 1)))
        self.assertTrue(same(together_worth(MIXED, ((0, 1, 3), (2, 4)), ()), (0, 1)))
        # Two ties apart: together they are kept both or none, whichever is asked first.
        web = (4, ties_between([(0, 1), (2, 3)], [3, 4]), (1,) * 4, 2)
        both = ((0, 1, 2), (1, -1, -1), (1, -1, -1))
        only_behind_yes, only_behind_no = ((0, 1, -1), (1, -1, -1)), ((0, -1, 1), (1, -1, -1))
        for tree, alone, together in ((both, (7, 2), (7, 2)), (only_behind_yes, (5, 2), (7, 2)),
                                      (only_behind_no, (5, 2), (3, 2))):
            self.assertIs(is_tree(web, tree), True)
            self.assertTrue(same(together_worth(web, ((0,), (1,)), tree), alone))
            self.assertTrue(same(together_worth(web, ((0, 1),), tree), together))

    def test_chances_zero_and_one(self):
        for chance, told in (((0, 1), (0, 1)), ((1, 1), (7, 1))):
            web = (4, ties_between([(0, 1), (2, 3)], [3, 4], chance), (1,) * 4, 2)
            for groups in (((0,), (1,)), ((0, 1),)):
                self.assertTrue(same(together_worth(web, groups, ((0, 1, 2), (1, -1, -1), (1, -1, -1))), told))

    def test_by_words(self):
        rng = random.Random(503)
        for web, groups in webs_and_groups(503, 60, 6, 8):
            for most in (3, 40):
                tree = grow_tree(rng, web, most)
                told = together_worth(web, groups, tree)
                self.assertTrue(same(told, pair_of(together_worth_by_words(web, groups, tree))))
                self.assertTrue(same(told, together_worth(web, groups, tree)))

    def test_groups_of_one_tie_each(self):
        for web, tree in [(WEB, TREE)] + webs_and_trees(504, 60):
            told = together_worth(web, single_groups(web), tree)
            self.assertTrue(same(told, worth_of(web, tree)))
            self.assertTrue(same(told, by_answers(web, tree)))

    def test_eight_groups_and_nine(self):
        rng = random.Random(505)
        tree = grow_tree(rng, GREAT, 30)
        # Groups are counted, not ties.
        for groups in (tuple((at, at + 8) for at in range(8)), (tuple(range(9)),) + tuple((at,) for at in range(9, 16)),
                       (tuple(range(16)),)):
            self.assertIs(is_groups(GREAT, groups), True)
            self.assertTrue(same(together_worth(GREAT, groups, tree),
                                 pair_of(together_worth_by_words(GREAT, groups, tree))))
        eight, nine = with_ties(WIDE, 8), with_ties(WIDE, 9)
        tree = grow_tree(rng, eight, 60)
        self.assertTrue(same(together_worth(eight, single_groups(eight), tree), worth_of(eight, tree)))
        groups = tuple((at, at + 9) if at < 7 else (at,) for at in range(9))
        self.assertIs(is_groups(GREAT, groups), True)
        for web, many in ((nine, single_groups(nine)), (GREAT, single_groups(GREAT)), (GREAT, groups)):
            with self.assertRaises(TooMany) as caught:
                together_worth(web, many, ())
            self.assertIsInstance(caught.exception, PairsError)

    def test_refused_ahead_of_any_other_work(self):
        for ties in (((0, 1, (1, 2), 1),) * 60, (None,) * 60):
            with self.assertRaises(TooMany):
                together_worth((2, ties, (20, 20), 40), tuple((at,) for at in range(60)), ((0, -1, -1),))


if __name__ == "__main__":
    unittest.main()
