import random
import unittest
from fractions import Fraction

from askedpairs.worthpaper import reaches_hold, worths_hold
from askedpairs.worths import asked_shares, reaches_of, worth_of, worths_of
from tests.helper import (EMPTY, TREE, WEB, WIDE, grow_tree, look_over, pair_of, reaches_by_words, same,
                          webs_and_trees, worths_by_words)

LARGE = grow_tree(random.Random(11), WIDE, 300)


def cases(seed, many, most_nodes=12):
    return [(WEB, TREE), (WEB, ()), (EMPTY, ())] + webs_and_trees(seed, many, most_nodes)


class Worths(unittest.TestCase):
    def test_by_examples(self):
        self.assertTrue(same(worths_of(WEB, ()), ()))
        self.assertTrue(same(worth_of(WEB, ()), (0, 1)))
        self.assertTrue(same(worths_of(WEB, ((0, -1, -1),)), ((5, 1),)))
        # 1/2 (10 + 7) + 1/2 (1/3 20)
        tree = ((0, 1, 2), (3, -1, -1), (1, -1, -1))
        self.assertTrue(same(worths_of(WEB, tree), ((71, 6), (7, 1), (20, 3))))
        self.assertTrue(same(worth_of(WEB, tree), (71, 6)))

    def test_nodes_that_can_not_be_come_to(self):
        # Tie 4 never says yes, tie 3 never no.
        tree = ((4, 1, 2), (3, -1, -1), (1, -1, -1))
        self.assertTrue(same(worths_of(WEB, tree), ((20, 3), (7, 1), (20, 3))))
        tree = ((3, -1, 1), (0, -1, -1))
        self.assertTrue(same(worths_of(WEB, tree), ((7, 1), (5, 1))))

    def test_by_words(self):
        for web, tree in cases(111, 200) + [(WIDE, LARGE)]:
            worths = worths_by_words(web, tree)
            self.assertTrue(same(worths_of(web, tree), worths))
            self.assertTrue(same(worths_of(web, tree), worths_of(web, tree)))
            self.assertTrue(same(worth_of(web, tree), worths[0] if tree else (0, 1)))

    def test_paper_of_anything(self):
        for web, tree in cases(112, 12, 5):
            paper = worths_by_words(web, tree)
            look_over(self, lambda thing: worths_hold(web, tree, thing), [paper], lambda thing: same(thing, paper))

    def test_paper_of_another_tree(self):
        told = webs_and_trees(113, 60)
        for web, tree in told:
            paper = worths_by_words(web, tree)
            for other, another in told:
                thing = worths_by_words(other, another)
                self.assertIs(worths_hold(web, tree, thing), same(thing, paper))

    def test_large_paper(self):
        paper = worths_by_words(WIDE, LARGE)
        self.assertIs(worths_hold(WIDE, LARGE, paper), True)
        for at in range(0, 300, 7):
            top, bottom = paper[at]
            for part in ((top + bottom, bottom), (2 * top, 2 * bottom), [top, bottom], (top, bottom, 1), top, None):
                self.assertIs(worths_hold(WIDE, LARGE, paper[:at] + (part,) + paper[at + 1:]), False)
            self.assertIs(worths_hold(WIDE, LARGE, paper[:at] + paper[at + 1:]), False)

    def test_a_raise_told_throughout(self):
        # Each node above agrees with the wrong one below it; only the last one gives it away.
        web = (4, ((0, 1, (1, 2), 10), (2, 3, (1, 2), 10)), (9,) * 4, 9)
        tree = ((0, 1, 2), (1, -1, -1), (1, -1, -1))
        self.assertIs(worths_hold(web, tree, ((10, 1), (5, 1), (5, 1))), True)
        self.assertIs(worths_hold(web, tree, ((11, 1), (6, 1), (6, 1))), False)
        self.assertIs(worths_hold(web, tree, ((11, 1), (7, 1), (5, 1))), False)
        self.assertIs(worths_hold(web, tree, ((10, 1), (6, 1), (4, 1))), False)


class Reaches(unittest.TestCase):
    def test_by_examples(self):
        self.assertTrue(same(reaches_of(WEB, ()), ()))
        self.assertTrue(same(reaches_of(WEB, ((1, -1, -1),)), ((1, 1),)))
        tree = ((1, 2, 1), (2, -1, 3), (4, -1, -1), (0, -1, -1))
        web = WEB[:2] + ((9,) * 4, 9)
        self.assertTrue(same(reaches_of(web, tree), ((1, 1), (2, 3), (1, 3), (1, 6))))

    def test_nodes_that_can_not_be_come_to(self):
        tree = ((4, 1, 2), (3, 3, -1), (1, -1, -1), (0, -1, -1))
        self.assertTrue(same(reaches_of(WEB, tree), ((1, 1), (0, 1), (1, 1), (0, 1))))

    def test_by_words(self):
        for web, tree in cases(121, 200) + [(WIDE, LARGE)]:
            self.assertTrue(same(reaches_of(web, tree), reaches_by_words(web, tree)))
            self.assertTrue(same(reaches_of(web, tree), reaches_of(web, tree)))

    def test_paper_of_anything(self):
        for web, tree in cases(122, 12, 5):
            paper = reaches_by_words(web, tree)
            look_over(self, lambda thing: reaches_hold(web, tree, thing), [paper], lambda thing: same(thing, paper))

    def test_paper_of_another_tree(self):
        told = webs_and_trees(123, 60)
        for web, tree in told:
            paper = reaches_by_words(web, tree)
            for other, another in told:
                thing = reaches_by_words(other, another)
                self.assertIs(reaches_hold(web, tree, thing), same(thing, paper))

    def test_all_told_by_half(self):
        # Each node agrees with the one that tells it; only the first one gives it away.
        web = (4, ((0, 1, (1, 2), 10), (2, 3, (1, 2), 10)), (9,) * 4, 9)
        tree = ((0, 1, 2), (1, -1, -1), (1, -1, -1))
        self.assertIs(reaches_hold(web, tree, ((1, 1), (1, 2), (1, 2))), True)
        self.assertIs(reaches_hold(web, tree, ((1, 2), (1, 4), (1, 4))), False)
        self.assertIs(reaches_hold(web, tree, ((0, 1), (0, 1), (0, 1))), False)

    def test_large_paper(self):
        paper = reaches_by_words(WIDE, LARGE)
        self.assertIs(reaches_hold(WIDE, LARGE, paper), True)
        for at in range(0, 300, 7):
            top, bottom = paper[at]
            for part in ((top + bottom, bottom), (2 * top, 2 * bottom), [top, bottom], (top, bottom, 1), top, None):
                self.assertIs(reaches_hold(WIDE, LARGE, paper[:at] + (part,) + paper[at + 1:]), False)
            self.assertIs(reaches_hold(WIDE, LARGE, paper + ((0, 1),)), False)


class Shares(unittest.TestCase):
    def test_by_examples(self):
        self.assertTrue(same(asked_shares(EMPTY, ()), ()))
        self.assertTrue(same(asked_shares(WEB, ()), ((0, 1),) * 5))
        # Tie 3 is asked behind both answers of tie 0, ties 1 and 2 never.
        tree = ((0, 1, 2), (3, -1, -1), (3, -1, 3), (4, -1, -1))
        self.assertTrue(same(asked_shares(WEB, tree), ((1, 1), (0, 1), (0, 1), (1, 1), (0, 1))))
        tree = ((0, -1, 1), (2, -1, 2), (1, -1, -1))
        self.assertTrue(same(asked_shares(WEB, tree), ((1, 1), (1, 8), (1, 2), (0, 1), (0, 1))))

    def test_from_above_it_is_worth_the_same(self):
        for web, tree in cases(131, 200) + [(WIDE, LARGE)]:
            shares = asked_shares(web, tree)
            self.assertEqual(len(shares), len(web[1]))
            total = Fraction(0)
            for tie, share in enumerate(shares):
                own = sum(Fraction(*reach) for node, reach in zip(tree, reaches_by_words(web, tree)) if node[0] == tie)
                self.assertTrue(same(share, pair_of(own)))
                total += Fraction(*share) * Fraction(*web[1][tie][2]) * web[1][tie][3]
            self.assertTrue(same(worth_of(web, tree), pair_of(total)))


if __name__ == "__main__":
    unittest.main()
