import itertools
import random
import unittest
from fractions import Fraction

from askedpairs.answering import by_answers
from askedpairs.errors import TooMany
from askedpairs.layerpaper import layers_hold
from askedpairs.layers import layers_of, order_worth, tree_of
from askedpairs.orders import run_order
from askedpairs.runs import answers_of, worth_kept
from askedpairs.trees import is_tree, run_tree
from askedpairs.worths import asked_shares, worth_of
from tests.helper import (EMPTY, GREAT, WEB, WIDE, all_orders, chance_by_words, layers_by_words, look_over,
                          look_over_run, order_worth_by_words, pair_of, random_webs, rows_of_answers, run_by_words,
                          same)

FIRST = ((), ())
# Two ties apart and one between them; whatever is taken, patience or asks are met by none.
PATH = (4, ((0, 1, (1, 2), 10), (2, 3, (1, 3), 20), (1, 2, (3, 4), 5)), (9,) * 4, 9)
# Sixteen ties of the same two things: an order of all has few stands.
TWINS = (2, tuple((0, 1, (1, at + 2), at) for at in range(16)), (20, 20), 40)
ASKLESS = (3, ((0, 1, (1, 2), 3), (1, 2, (1, 2), 4)), (2, 2, 2), 0)
IMPATIENT = (3, ((0, 1, (1, 2), 3), (1, 2, (1, 2), 4)), (0, 0, 0), 9)


def cases(seed, many, most_things=6, most_ties=6):
    """Webs with orders of none, some or all of their ties."""
    rng = random.Random(seed)
    told = [(WEB, ()), (WEB, (0, 1, 2, 3, 4)), (WEB, (4, 2, 3)), (EMPTY, ()), (ASKLESS, (1, 0)), (IMPATIENT, (0, 1))]
    for web in random_webs(seed, many, most_things, most_ties):
        ties = range(len(web[1]))
        told.append((web, tuple(rng.sample(ties, rng.randint(0, len(ties))))))
        told.append((web, tuple(rng.sample(ties, len(ties)))))
    return told


class Layers(unittest.TestCase):
    def test_by_examples(self):
        first = ((FIRST, (1, 1)),)
        self.assertTrue(same(layers_of(EMPTY, ()), (first,)))
        self.assertTrue(same(layers_of(PATH, ()), (first,)))
        second = ((((0,), ()), (1, 2)), (((0,), (0, 1)), (1, 2)))
        self.assertTrue(same(layers_of(PATH, (0,)), (first, second)))
        # Tie 2 is passed over where thing 1 is taken.
        third = ((((0,), (0, 1)), (1, 2)), (((0, 2), ()), (1, 8)), (((0, 2), (1, 2)), (3, 8)))
        self.assertTrue(same(layers_of(PATH, (0, 2)), (first, second, third)))

    def test_stands_that_can_not_come_are_not_told(self):
        web = (2, ((0, 1, (0, 1), 3), (0, 1, (1, 1), 4), (0, 1, (1, 2), 5)), (3, 3), 3)
        told = (((FIRST, (1, 1)),), ((((0,), ()), (1, 1)),), ((((0, 1), (0, 1)), (1, 1)),),
                ((((0, 1), (0, 1)), (1, 1)),))
        self.assertTrue(same(layers_of(web, (0, 1, 2)), told))

    def test_all_ties_passed_over(self):
        for web in (ASKLESS, IMPATIENT):
            self.assertTrue(same(layers_of(web, (1, 0)), (((FIRST, (1, 1)),),) * 3))
            self.assertTrue(same(order_worth(web, (1, 0)), (0, 1)))
            self.assertTrue(same(tree_of(web, (1, 0)), ()))

    def test_by_words(self):
        for web, order in cases(141, 120):
            layers = layers_of(web, order)
            self.assertTrue(same(layers, layers_by_words(web, order)), (web, order))
            self.assertTrue(same(layers, layers_of(web, order)))
            self.assertIs(layers_hold(web, order, layers), True)

    def test_by_all_rows_of_answers(self):
        for web, order in cases(142, 40, 5, 5):
            layers = [{} for at in range(len(order) + 1)]
            for answers in rows_of_answers(web):
                for at, layer in enumerate(layers):
                    run = run_by_words(web, order[:at], answers)
                    taken = [thing for tie, truth in run if truth for thing in web[1][tie][:2]]
                    stand = (tuple(sorted(tie for tie, truth in run)), tuple(sorted(taken)))
                    layer[stand] = layer.get(stand, Fraction(0)) + chance_by_words(web, answers)
            told = tuple(tuple((stand, pair_of(layer[stand])) for stand in sorted(layer) if layer[stand] > 0)
                         for layer in layers)
            self.assertTrue(same(layers_of(web, order), told))

    def test_layers_rise_and_are_whole(self):
        for web, order in cases(143, 60, 8, 8):
            layers = layers_of(web, order)
            self.assertEqual(len(layers), len(order) + 1)
            for layer in layers:
                stands = [stand for stand, chance in layer]
                self.assertEqual(stands, sorted(set(stands)))
                self.assertTrue(all(chance[0] > 0 for stand, chance in layer))
                self.assertEqual(sum(Fraction(*chance) for stand, chance in layer), 1)

    def test_eight_ties_and_nine(self):
        for web in (WIDE, GREAT, TWINS):
            for order in (tuple(range(8)), (9, 1, 15, 3, 2, 12, 0, 7)):
                layers = layers_of(web, order)
                self.assertTrue(same(layers, layers_by_words(web, order)))
                self.assertIs(layers_hold(web, order, layers), True)
                tree = tree_of(web, order)
                self.assertIs(is_tree(web, tree), True)
                self.assertTrue(same(order_worth(web, order), worth_of(web, tree)))
            for order in (tuple(range(9)), tuple(range(16))[::-1]):
                for question in (layers_of, order_worth, tree_of):
                    with self.assertRaises(TooMany):
                        question(web, order)

    def test_refused_ahead_of_any_other_work(self):
        # Nothing of these orders could be looked up in the web.
        for order in (tuple(range(9)), tuple(range(200))):
            for question in (layers_of, order_worth, tree_of):
                with self.assertRaises(TooMany):
                    question(EMPTY, order)


class LayersHold(unittest.TestCase):
    def test_anything(self):
        few = (3, ((0, 1, (1, 2), 3), (1, 2, (1, 3), 5)), (2, 2, 2), 2)
        for web, order in ((EMPTY, ()), (WEB, ()), (WEB, (3, 4)), (few, (0, 1)), (few, (1, 0)), (few, (1,)),
                           (PATH, (0, 2)), (ASKLESS, (0, 1)), (IMPATIENT, (0,))):
            paper = layers_by_words(web, order)
            look_over(self, lambda thing: layers_hold(web, order, thing), [paper], lambda thing: same(thing, paper))

    def test_anything_of_longer_orders(self):
        for web, order in [(WEB, (0, 1, 2, 3, 4))] + cases(151, 6, 6, 5)[6:]:
            paper = layers_by_words(web, order)
            look_over(self, lambda thing: layers_hold(web, order, thing), [paper], lambda thing: same(thing, paper),
                      7)

    def test_papers_of_other_orders(self):
        told = cases(152, 40, 4, 3)
        for web, order in told:
            paper = layers_by_words(web, order)
            for other, another in told:
                thing = layers_by_words(other, another)
                self.assertIs(layers_hold(web, order, thing), same(thing, paper))

    def test_orders_of_more_than_eight_ties(self):
        rng = random.Random(153)
        for web in (TWINS, (WIDE[0], WIDE[1], (2,) * 12, 6), (GREAT[0], GREAT[1], (20,) * 11 + (3,), 40)):
            for many in (9, 12, 16):
                order = tuple(rng.sample(range(16), many))
                paper = layers_by_words(web, order)
                self.assertIs(layers_hold(web, order, paper), True)
                self.assertIs(layers_hold(web, order[:-1], paper), False)
                self.assertIs(layers_hold(web, order, paper[:-1]), False)
                self.assertIs(layers_hold(web, order, paper[:-1] + (paper[0],)), False)
                last = paper[-1]
                for other in (last[1:], last[:-1], last[::-1], last + last[-1:], list(last), last + ((FIRST, (1, 1)),)):
                    if other != last:
                        self.assertIs(layers_hold(web, order, paper[:-1] + (other,)), False)

    def test_wrong_layers(self):
        paper = layers_of(PATH, (0, 2))
        first, second, third = paper
        wrong = [
            (first, second), (second, third), (first, second, third, third), (first, first, second, third),
            (first, third, second), ((), second, third), (first + first, second, third),
            # A stand left out, twice, exchanged, put in.
            (first, second[:1], third), (first, second[1:], third), (first, second + second[1:], third),
            (first, second[::-1], third), (first, second, (third[0], third[2], third[1])),
            (first, second, third + (((0, 2), (1, 3)), (1, 8))), (first, second, third + ((((2,), ()), (0, 1)),)),
            # A chance of 0, one not in lowest terms, one of another.
            (first, second, ((((0,), ()), (0, 1)),) + third), (first, ((second[0][0], (2, 4)), second[1]), third),
            (((FIRST, (2, 2)),), second, third), (((FIRST, (1, 2)),), second, third),
            (first, ((second[0][0], (1, 3)), (second[1][0], (2, 3))), third),
            (first, ((second[0][0], (0, 1)), (second[1][0], (1, 1))), third),
            # Lists for tuples, truths for numbers.
            list(paper), (list(first), second, third), ((list(first[0]),), second, third),
            (((FIRST, [1, 1]),), second, third), (((FIRST, (True, 1)),), second, third),
            (((FIRST, (1, True)),), second, third), ((([(), ()], (1, 1)),), second, third),
            (((([], ()), (1, 1)),), second, third), (first, ((((False,), ()), (1, 2)), second[1]), third),
            (first, (second[0], (((0,), (False, True)), (1, 2))), third),
            (None, second, third), ((None,), second, third), (((None, (1, 1)),), second, third),
            (((FIRST, None),), second, third), ("", second, third), ({}, second, third), (first, {}, third),
        ]
        for thing in wrong:
            self.assertIs(layers_hold(PATH, (0, 2), thing), False, thing)
        self.assertIs(layers_hold(PATH, (0, 2), paper), True)


class OrderWorth(unittest.TestCase):
    def test_by_examples(self):
        self.assertTrue(same(order_worth(EMPTY, ()), (0, 1)))
        self.assertTrue(same(order_worth(PATH, ()), (0, 1)))
        self.assertTrue(same(order_worth(PATH, (1,)), (20, 3)))
        # 1/2 10, and where tie 0 said no 3/4 5.
        self.assertTrue(same(order_worth(PATH, (0, 2)), (55, 8)))
        self.assertTrue(same(order_worth(PATH, (2, 0)), (5, 1)))

    def test_all_orders_by_all_rows_of_answers(self):
        for web in [WEB] + random_webs(161, 12, 5, 4, 3):
            for order in all_orders(min(len(web[1]), 4)):
                self.assertTrue(same(order_worth(web, order), pair_of(order_worth_by_words(web, order))), (web, order))

    def test_one_worth_by_every_way(self):
        for web, order in cases(162, 100):
            worth = order_worth(web, order)
            tree = tree_of(web, order)
            self.assertTrue(same(worth, pair_of(order_worth_by_words(web, order))))
            self.assertTrue(same(worth, worth_of(web, tree)))
            self.assertTrue(same(worth, by_answers(web, tree)))
            shares = asked_shares(web, tree)
            self.assertEqual(Fraction(*worth), sum(Fraction(*share) * Fraction(*tie[2]) * tie[3]
                                                   for share, tie in zip(shares, web[1])))
            self.assertTrue(same(worth, order_worth(web, order)))

    def test_over_all_rolls_the_average_is_the_worth(self):
        ties = ((0, 1, (1, 2), 10), (1, 2, (2, 3), 20), (0, 2, (3, 5), 5), (2, 3, (1, 1), 7), (0, 3, (0, 1), 9))
        web = (4, ties, (2, 3, 2, 2), 3)
        rolls = list(itertools.product(*[range(tie[2][1]) for tie in ties]))
        for order in ((), (0, 1, 2, 3, 4), (4, 3, 2), (2, 0, 3, 1)):
            kept = sum(worth_kept(web, run_order(web, order, answers_of(web, row))) for row in rolls)
            self.assertTrue(same(order_worth(web, order), pair_of(Fraction(kept, len(rolls)))))


class TreeOf(unittest.TestCase):
    def test_by_examples(self):
        self.assertTrue(same(tree_of(EMPTY, ()), ()))
        self.assertTrue(same(tree_of(PATH, ()), ()))
        self.assertTrue(same(tree_of(PATH, (2,)), ((2, -1, -1),)))
        # Behind a yes of tie 0 tie 2 is passed over, and nothing is left.
        self.assertTrue(same(tree_of(PATH, (0, 2)), ((0, -1, 1), (2, -1, -1))))

    def test_asks_what_the_order_asks(self):
        for web, order in cases(171, 120):
            tree = tree_of(web, order)
            self.assertIs(is_tree(web, tree), True)
            self.assertTrue(same(tree, tree_of(web, order)))
            for answers in rows_of_answers(web):
                run = run_tree(web, tree, answers)
                self.assertTrue(same(run, run_by_words(web, order, answers)), (web, order, answers))
                look_over_run(self, web, run)

    def test_answers_of_chance_zero(self):
        web = (4, ((0, 1, (0, 1), 3), (2, 3, (1, 1), 4), (1, 2, (0, 1), 5)), (3,) * 4, 9)
        for order in itertools.permutations(range(3)):
            tree = tree_of(web, order)
            for answers in rows_of_answers(web):
                self.assertTrue(same(run_tree(web, tree, answers), run_order(web, order, answers)))


if __name__ == "__main__":
    unittest.main()
