"""What the document promises over the whole program, in its third point."""

import itertools
import math
import random
import unittest
from fractions import Fraction

from askedpairs.ahead import best_order, loss, seer
from askedpairs.answering import by_answers
from askedpairs.bounds import bound, by_rolls, by_shares
from askedpairs.charges import charges_of
from askedpairs.desk import Desk
from askedpairs.greedy import by_both, by_chance, by_worth, is_enough
from askedpairs.layers import layers_of, order_worth, tree_of
from askedpairs.led import beside, left_out, order_beside, raised
from askedpairs.orders import run_order
from askedpairs.pairings import heaviest
from askedpairs.pricepaper import prices_hold, prices_worth, shares_worth
from askedpairs.runs import answers_of, kept_of, worth_kept
from askedpairs.sides import sides
from askedpairs.tablepaper import table_holds
from askedpairs.tables import best_tree, best_worth, table_of
from askedpairs.texts import read, told
from askedpairs.trees import is_tree, run_tree
from askedpairs.worths import asked_shares, reaches_of, worth_of, worths_of
from tests.helper import (CHANCES, EMPTY, GREAT, TREE, WEB, WIDE, average_by_words, behind_by_words, best_by_words,
                          enough_webs, grow_tree, heaviest_worth_by_words, kept_by_words, look_over_run, pair_of, put,
                          raised_webs, random_webs, rows_of_answers, run_by_words, same, ties_between,
                          tree_run_by_words, two_sided_webs, webs_and_trees, with_ties, worth_by_ties)


def orders_told(web, rng):
    """The orders that the program tells of a web of few ties."""
    shares = bound(web)[1]
    rolls = tuple(rng.randrange(share[1]) for share in shares)
    orders = [by_chance(web), by_worth(web), by_both(web), by_shares(web, shares), by_rolls(web, shares, rolls)]
    return orders + ([best_order(web)[1]] if len(web[1]) <= 4 else [])


class Worth(unittest.TestCase):
    """(a) A plan's worth is the same by whichever way it is reckoned."""

    def test_trees(self):
        for web, tree in [(WEB, TREE), (EMPTY, ())] + webs_and_trees(421, 60, 40, 7, 8):
            average = pair_of(average_by_words(web, lambda row: kept_by_words(web, tree_run_by_words(tree, row))))
            from_above = sum((Fraction(*reach) * Fraction(*web[1][node[0]][2]) * web[1][node[0]][3]
                              for reach, node in zip(reaches_of(web, tree), tree)), Fraction(0))
            self.assertTrue(same(worth_of(web, tree), average))
            self.assertTrue(same((worths_of(web, tree) or ((0, 1),))[0], average))
            self.assertTrue(same(pair_of(from_above), average))
            self.assertTrue(same(shares_worth(web, asked_shares(web, tree)), average))
            self.assertTrue(same(by_answers(web, tree), average))

    def test_orders(self):
        rng = random.Random(422)
        for web in [WEB, EMPTY] + random_webs(422, 40, 7, 7):
            for order in orders_told(web, rng):
                average = pair_of(average_by_words(web, lambda row: kept_by_words(web, run_by_words(web, order, row))))
                tree = tree_of(web, order)
                self.assertTrue(same(order_worth(web, order), average))
                self.assertTrue(same(worth_of(web, tree), average))
                self.assertTrue(same(by_answers(web, tree), average))
                self.assertTrue(same(shares_worth(web, asked_shares(web, tree)), average))
                for layer in layers_of(web, order):
                    self.assertEqual(sum(Fraction(*chance) for stand, chance in layer), 1)


class LetBy(unittest.TestCase):
    """(b) No plan asks or keeps too much."""

    def test_all_runs(self):
        rng = random.Random(431)
        for web in [WEB, EMPTY] + random_webs(431, 40, 7, 7, 3):
            trees = [grow_tree(rng, web, 30), best_tree(web, table_of(web))]
            orders = orders_told(web, rng)
            trees += [tree_of(web, order) for order in orders]
            for tree in trees:
                self.assertIs(is_tree(web, tree), True)
            for answers in rows_of_answers(web):
                for run in [run_tree(web, tree, answers) for tree in trees] + [run_order(web, order, answers)
                                                                             for order in orders]:
                    look_over_run(self, web, run)

    def test_runs_at_a_desk(self):
        rng = random.Random(432)
        for web in [WEB, WIDE, GREAT[:3] + (3,)] + random_webs(432, 30, 8, 12, 3):
            desk, run = Desk(web), []
            for at in range(60):
                tie = rng.randrange(max(1, len(web[1])))
                if desk.say(f"ask {tie}") == "asked":
                    truth = rng.random() < 0.3
                    desk.say("yes" if truth else "no")
                    run.append((tie, truth))
            look_over_run(self, web, run)
            kept = " ".join(map(str, kept_of(run))) or "none"
            self.assertEqual(desk.say("kept"), f"{kept} {worth_kept(web, run)}")


class Bounded(unittest.TestCase):
    """(c) What right prices bound is at least the worth of every plan."""

    def right_prices(self, rng, web):
        """Prices drawn, each tie's own made just enough."""
        keeping, bearing = (tuple((rng.randrange(0, 900), 1) for at in range(web[0])) for row in range(2))
        asking, once = (rng.randrange(0, 50), 1), []
        for one, other, chance, worth in web[1]:
            lacking = (Fraction(*chance) * (worth - keeping[one][0] - keeping[other][0])
                       - bearing[one][0] - bearing[other][0] - asking[0])
            once.append(pair_of(max(Fraction(0), lacking)))
        return (keeping, bearing, asking, tuple(once))

    def test_every_plan(self):
        rng = random.Random(441)
        for web in [WEB, EMPTY] + random_webs(441, 60, 6, 6):
            papers = [bound(web)[2]] + [self.right_prices(rng, web) for at in range(5)]
            nothing = tuple((0, 1) for at in range(web[0]))
            papers.append((nothing, nothing, (0, 1), tuple(pair_of(Fraction(*tie[2]) * tie[3]) for tie in web[1])))
            plans = [best_worth(web), worth_of(web, grow_tree(rng, web, 30))]
            plans += [order_worth(web, order) for order in orders_told(web, rng)]
            for prices in papers:
                self.assertIs(prices_hold(web, prices), True)
                for worth in plans:
                    self.assertLessEqual(Fraction(*worth), Fraction(*prices_worth(web, prices)))
            self.assertLessEqual(Fraction(*best_worth(web)), Fraction(*seer(web)))


class Best(unittest.TestCase):
    """(d) and (e) What tables tell, and orders beside them."""

    def test_tables(self):
        rng = random.Random(451)
        for web in [WEB, EMPTY] + random_webs(451, 40, 6, 6):
            table = table_of(web)
            self.assertIs(table_holds(web, table), True)
            worths = {stand: Fraction(*worth) for stand, worth, ask in table}
            self.assertEqual(worths[((), ())], best_by_words(web))
            self.assertLessEqual(Fraction(*worth_of(web, grow_tree(rng, web, 30))), worths[((), ())])
            for stand, worth, ask in table:
                if ask != -1 and web[1][ask][2][0] > 0:
                    yes, no = (worths[behind_by_words(web, stand, ask, truth)] for truth in (True, False))
                    self.assertGreaterEqual(web[1][ask][3] + yes, no)

    def test_orders(self):
        rng = random.Random(452)
        for web in [with_ties(WEB, 4), EMPTY] + random_webs(452, 25, 5, 4):
            best = Fraction(*best_worth(web))
            for order in orders_told(web, rng):
                self.assertLessEqual(Fraction(*order_worth(web, order)), Fraction(*best_order(web)[0]))
            self.assertLessEqual(Fraction(*best_order(web)[0]), best)
            self.assertEqual(Fraction(*loss(web)), Fraction(*best_order(web)[0]) / best if best else 1)


class ByWorth(unittest.TestCase):
    """(f) Where patience and asks are enough, the order by worth keeps at least half."""

    def test_at_each_row_of_answers(self):
        rng = random.Random(401)
        webs = [WEB, with_ties(WIDE, 8)] + random_webs(401, 30, 8, 8) + two_sided_webs(402, 10, 10, 9)
        for web in enough_webs(webs):
            self.assertIs(is_enough(web), True)
            trees = [grow_tree(rng, web, 40) for at in range(3)]
            for answers in rows_of_answers(web):
                kept = worth_kept(web, run_order(web, by_worth(web), answers))
                said_yes = [tie for tie, truth in enumerate(answers) if truth]
                self.assertLessEqual(heaviest_worth_by_words(web, said_yes), 2 * kept)
                for tree in trees:
                    run = run_tree(web, tree, answers)
                    self.assertLessEqual(worth_kept(web, run), 2 * kept)
                    other = tuple(sorted(kept_of(run)))
                    mine = tuple(sorted(kept_of(run_order(web, by_worth(web), answers))))
                    self.assertIsNotNone(charges_of(web, mine, other))

    def test_on_the_average(self):
        for web in enough_webs([WEB, EMPTY] + random_webs(403, 60, 7, 7)):
            self.assertGreaterEqual(2 * Fraction(*order_worth(web, by_worth(web))), Fraction(*best_worth(web)))

    def test_just_half_and_less_where_it_is_not_enough(self):
        # The heavier one by one takes both things of the others.
        ties = ties_between([(0, 1), (1, 2), (2, 3)], [999, 1000, 999], (1, 1))
        web = (4, ties, (1, 2, 2, 1), 3)
        self.assertTrue(same(order_worth(web, by_worth(web)), (1000, 1)))
        self.assertTrue(same(best_worth(web), (1998, 1)))
        # One ask in all: the greatest worth may have next to no chance.
        web = (4, ((0, 1, (1, 100), 1000), (2, 3, (1, 1), 999)), (1,) * 4, 1)
        self.assertIs(is_enough(web), False)
        self.assertLess(2 * Fraction(*order_worth(web, by_worth(web))), Fraction(*best_worth(web)))


def sure_webs(webs, rng):
    """The same webs with all chances one, each thing's patience at least 1, just half as many asks as things."""
    told = []
    for things, ties, patience, asks in webs:
        ties = tuple(tie[:2] + ((1, 1), tie[3]) for tie in ties)
        told.append((things, ties, tuple(rng.choice((1, 1, 2, 20)) for at in patience), (things + 1) // 2))
    return told


class Sure(unittest.TestCase):
    """(h) Where all chances are one, the best worth is that of the heaviest pairing."""

    def test_the_best_worth(self):
        rng = random.Random(411)
        webs = [EMPTY, WEB, with_ties(WIDE, 7), (3, (), (0,) * 3, 0)]
        told = {"sides": 0, "ring": 0}
        for web in sure_webs(webs + random_webs(411, 60, 7, 7) + two_sided_webs(412, 30, 12, 7), rng):
            worth = heaviest_worth_by_words(web)
            self.assertTrue(same(best_worth(web), (worth, 1)), web)
            told[sides(web)[0]] += 1
            if sides(web)[0] == "sides":
                self.assertEqual(worth_by_ties(web, heaviest(web)[0]), worth)
                self.assertTrue(same(bound(web)[0], (worth, 1)))
        self.assertGreater(min(told.values()), 15)

    def test_the_bound(self):
        rng = random.Random(413)
        for web in sure_webs([with_ties(WIDE, 10)] + two_sided_webs(413, 100, 12, 10), rng):
            worth = worth_by_ties(web, heaviest(web)[0])
            self.assertEqual(worth, heaviest_worth_by_words(web))
            self.assertTrue(same(bound(web)[0], (worth, 1)))

    def test_without_sides_the_bound_may_be_more(self):
        web = (3, ties_between([(0, 1), (1, 2), (0, 2)], [1000] * 3, (1, 1)), (1,) * 3, 2)
        self.assertTrue(same(best_worth(web), (1000, 1)))
        self.assertTrue(same(bound(web)[0], (1500, 1)))

    def test_with_too_few_asks_or_no_patience_it_may_be_less(self):
        ties = ties_between([(0, 1), (2, 3)], [5, 6], (1, 1))
        for patience, asks, told in (((1,) * 4, 2, 11), ((1,) * 4, 1, 6), ((0, 1, 1, 1), 2, 6), ((1, 1, 1, 0), 2, 5)):
            web = (4, ties, patience, asks)
            self.assertTrue(same(best_worth(web), pair_of(told)))
            self.assertEqual(worth_by_ties(web, heaviest(web)[0]), 11)


class Raised(unittest.TestCase):
    """(g) What is raised never makes the best worth less, nor the bound; ties left out never make them more."""

    def test_raised(self):
        for web in [WEB] + random_webs(461, 25, 5, 5, 3):
            best, most = Fraction(*best_worth(web)), Fraction(*bound(web)[0])
            for other in raised_webs(web):
                self.assertGreaterEqual(Fraction(*best_worth(other)), best)
                self.assertGreaterEqual(Fraction(*bound(other)[0]), most)

    def test_chances_raised(self):
        for web in [WEB] + random_webs(462, 12, 5, 5, 3):
            best, most = Fraction(*best_worth(web)), Fraction(*bound(web)[0])
            for tie, chance in itertools.product(range(len(web[1])), CHANCES):
                if Fraction(*chance) >= Fraction(*web[1][tie][2]):
                    other = raised(web, tie, chance)
                    self.assertGreaterEqual(Fraction(*best_worth(other)), best)
                    self.assertGreaterEqual(Fraction(*bound(other)[0]), most)

    def test_ties_left_out(self):
        for web in [WEB] + random_webs(463, 20, 6, 6, 3):
            best, most = Fraction(*best_worth(web)), Fraction(*bound(web)[0])
            for size in range(len(web[1]) + 1):
                for ties in itertools.combinations(range(len(web[1])), size):
                    other = left_out(web, ties)
                    self.assertLessEqual(Fraction(*best_worth(other)), best)
                    self.assertLessEqual(Fraction(*bound(other)[0]), most)
            self.assertTrue(same(best_worth(left_out(web, tuple(range(len(web[1]))))), (0, 1)))


class Beside(unittest.TestCase):
    """(i) Two webs side by side."""

    def pairs(self, seed, many, most_ties):
        return list(zip(random_webs(seed, many, 6, most_ties), random_webs(seed + 1, many, 6, most_ties)))

    def test_at_least_the_sum(self):
        more = 0
        for one, other in self.pairs(471, 80, 3) + [(EMPTY, EMPTY), (WEB, EMPTY), (EMPTY, WEB)]:
            both = beside(one, other)
            apart = Fraction(*best_worth(one)) + Fraction(*best_worth(other))
            self.assertGreaterEqual(Fraction(*best_worth(both)), apart)
            more += Fraction(*best_worth(both)) > apart
            if one[3] >= len(one[1]) and other[3] >= len(other[1]):
                self.assertEqual(Fraction(*best_worth(both)), apart)
        # What one web has of asks to spare may serve the other.
        self.assertGreater(more, 5)

    def test_just_the_sum_where_asks_are_enough(self):
        for one, other in self.pairs(473, 40, 3) + self.pairs(475, 40, 5):
            # Just as many asks as ties.
            one, other = put(one, 3, len(one[1])), put(other, 3, len(other[1]))
            both = beside(one, other)
            self.assertEqual(Fraction(*bound(both)[0]), Fraction(*bound(one)[0]) + Fraction(*bound(other)[0]))
            if len(both[1]) <= 7:
                self.assertEqual(Fraction(*best_worth(both)), Fraction(*best_worth(one)) + Fraction(*best_worth(other)))

    def test_orders(self):
        for one, other in self.pairs(477, 40, 4):
            one, other = put(one, 3, len(one[1])), put(other, 3, len(other[1]))
            order = order_beside(one, by_both(one), by_chance(other))
            apart = Fraction(*order_worth(one, by_both(one))) + Fraction(*order_worth(other, by_chance(other)))
            self.assertEqual(Fraction(*order_worth(beside(one, other), order)), apart)

    def test_texts(self):
        for one, other in self.pairs(479, 20, 8):
            both = beside(one, other)
            self.assertTrue(same(read(told(both)), both))


class Rolls(unittest.TestCase):
    """(j) A run by rolls has the answers that the rolls tell; over all rolls its worth is that of the plan."""

    def test_over_all_rolls(self):
        rng = random.Random(481)
        small = [web for web in random_webs(481, 150, 6, 5) if math.prod(tie[2][1] for tie in web[1]) <= 400]
        self.assertGreater(len(small), 40)
        for web in small + [with_ties(WEB, 4), EMPTY]:
            rolls = list(itertools.product(*[range(tie[2][1]) for tie in web[1]]))
            tree, order = grow_tree(rng, web, 20), by_both(web)
            sums = [0, 0]
            for row in rolls:
                answers = answers_of(web, row)
                for at, run in enumerate((run_tree(web, tree, answers), run_order(web, order, answers))):
                    sums[at] += worth_kept(web, run)
                    self.assertTrue(all(truth is (row[tie] < web[1][tie][2][0]) for tie, truth in run))
            self.assertTrue(same(worth_of(web, tree), pair_of(Fraction(sums[0], len(rolls)))))
            self.assertTrue(same(order_worth(web, order), pair_of(Fraction(sums[1], len(rolls)))))


if __name__ == "__main__":
    unittest.main()
