import itertools
import random
import unittest
from fractions import Fraction

from askedpairs.answering import by_answers
from askedpairs.errors import TooMany
from askedpairs.layers import order_worth
from askedpairs.runs import answers_of, worth_kept
from askedpairs.tablepaper import table_holds
from askedpairs.tables import best_tree, best_worth, table_of
from askedpairs.trees import is_tree, run_tree, stands_of
from askedpairs.worths import worth_of
from tests.helper import (EMPTY, GREAT, WEB, WIDE, all_orders, behind_by_words, best_by_words, look_over,
                          look_over_run, may_by_words, pair_of, put, random_webs, rows_of_answers, same,
                          stand_by_words, table_by_words, told_ask_by_words, webs_and_trees)

FIRST = ((), ())
ONE_TIE = (2, ((0, 1, (1, 2), 3),), (1, 1), 1)
# Two ties of one thing; asked in whichever order, one of them is worth more.
FEW = (3, ((0, 1, (1, 2), 3), (1, 2, (1, 3), 5)), (2, 2, 2), 2)
APART = (4, ((0, 1, (1, 2), 3), (2, 3, (1, 3), 5)), (1,) * 4, 2)
SURE = (3, ((0, 1, (1, 1), 3), (1, 2, (0, 1), 5)), (2, 2, 2), 2)
WORTHLESS = (3, ((0, 1, (1, 2), 0), (1, 2, (0, 1), 7)), (2, 2, 2), 2)
ASKLESS = (3, ((0, 1, (1, 2), 3), (1, 2, (1, 2), 4)), (2, 2, 2), 0)
IMPATIENT = (3, ((0, 1, (1, 2), 3), (1, 2, (1, 2), 4)), (0, 0, 0), 9)
SMALL = [EMPTY, ONE_TIE, FEW, APART, SURE, WORTHLESS, ASKLESS, IMPATIENT]
SEVEN = (WIDE[0], WIDE[1][:7]) + WIDE[2:]


def worths_in(table):
    return {stand: worth for stand, worth, ask in table}


def with_other_asks(rng, web, table):
    """A table of the same worths, each ask any one that it may be."""
    worths = worths_in(table)
    rows = []
    for stand, worth, ask in table:
        asks = [tie for tie in range(len(web[1])) if may_by_words(web, stand, tie)
                and told_ask_by_words(web, worths, stand, tie) == Fraction(*worth)]
        rows.append((stand, worth, rng.choice(asks + ([-1] if worth == (0, 1) else []))))
    return tuple(rows)


def all_stands(web):
    """All stands by the words, also such as never come."""
    rows = [[row for size in range(many + 1) for row in itertools.combinations(range(many), size)]
            for many in (len(web[1]), web[0])]
    return [pair for pair in itertools.product(*rows) if stand_by_words(web, pair)]


def table_of_all_stands(web):
    known = {}
    rows = [(stand, pair_of(best_by_words(web, stand, known)), -1) for stand in sorted(all_stands(web))]
    worths = worths_in(rows)
    for at, (stand, worth, ask) in enumerate(rows):
        for tie in range(len(web[1])):
            if worth != (0, 1) and may_by_words(web, stand, tie):
                if told_ask_by_words(web, worths, stand, tie) == Fraction(*worth):
                    rows[at] = (stand, worth, tie)
    return tuple(rows)


def table_of_one_ask(web):
    """The table of a web of at most one ask."""
    behind = []
    for tie in range(len(web[1])) if web[3] else ():
        behind += [(behind_by_words(web, FIRST, tie, truth), (0, 1), -1) for truth in (True, False)]
    asks = [(Fraction(*tie[2]) * tie[3], at) for at, tie in enumerate(web[1])] if behind else [(0, -1)]
    worth, ask = max(asks)
    return tuple(sorted([(FIRST, pair_of(worth), ask)] + behind))


class TableHolds(unittest.TestCase):
    def no(self, web, thing):
        self.assertIs(table_holds(web, thing), False, thing)

    def test_by_examples(self):
        self.assertIs(table_holds(EMPTY, ((FIRST, (0, 1), -1),)), True)
        self.assertIs(table_holds(ASKLESS, ((FIRST, (0, 1), -1),)), True)
        table = ((FIRST, (3, 2), 0), (((0,), ()), (0, 1), -1), (((0,), (0, 1)), (0, 1), -1))
        self.assertIs(table_holds(ONE_TIE, table), True)
        self.no(ONE_TIE, ((FIRST, (0, 1), -1),))
        self.no(EMPTY, ())

    def test_whatever_the_chance_both_stands_are_there(self):
        behind = [((0,), ()), ((0,), (0, 1))]
        for chance in ((0, 1), (1, 1)):
            web = (2, ((0, 1, chance, 3),), (1, 1), 1)
            table = ((FIRST, (3 * chance[0], 1), 0),) + tuple((stand, (0, 1), -1) for stand in behind)
            self.assertIs(table_holds(web, table), True)
            self.no(web, table[:2])
            self.no(web, table[:1] + table[2:])
            self.no(web, table[:1])

    def test_anything(self):
        for web in SMALL:
            look_over(self, lambda thing: table_holds(web, thing), [table_of(web)],
                      lambda thing: table_by_words(web, thing), 2)

    def test_anything_of_larger_tables(self):
        for web in [WEB] + random_webs(181, 3, 5, 4, 3):
            look_over(self, lambda thing: table_holds(web, thing), [table_of(web)],
                      lambda thing: table_by_words(web, thing), 301)

    def test_tables_of_other_webs(self):
        webs = SMALL + random_webs(182, 25, 4, 3, 2)
        tables = [table_of(web) for web in webs]
        for web in webs:
            for table in tables:
                self.assertIs(table_holds(web, table), table_by_words(web, table))

    def test_a_worth_too_small_or_too_great(self):
        for web in [FEW, APART, SURE, WEB]:
            table = table_of(web)
            for at, (stand, worth, ask) in enumerate(table):
                for step in (Fraction(1), Fraction(1, 100), Fraction(-1, 100), Fraction(-1)):
                    other = put(table, at, (stand, pair_of(Fraction(*worth) + step), ask))
                    self.no(web, other)
            # By one more at each stand no ask is worth more than told, but nothing may be left at an end.
            self.no(web, tuple((stand, (worth[0] + worth[1], worth[1]), ask) for stand, worth, ask in table))

    def test_asks(self):
        for web in [FEW, APART, SURE, WORTHLESS, WEB]:
            table = table_of(web)
            worths = worths_in(table)
            for at, (stand, worth, ask) in enumerate(table):
                for tie in range(len(web[1])):
                    fits = (may_by_words(web, stand, tie)
                            and told_ask_by_words(web, worths, stand, tie) == Fraction(*worth))
                    self.assertIs(table_holds(web, put(table, at, (stand, worth, tie))), fits)
                self.assertIs(table_holds(web, put(table, at, (stand, worth, -1))), worth == (0, 1))
                for wrong in (-2, len(web[1]), None, True, False, "0", (ask,), [ask], {}):
                    self.no(web, put(table, at, (stand, worth, wrong)))

    def test_an_ask_of_worth_zero(self):
        # Where nothing is to be had one may ask or stop.
        table = table_of(WORTHLESS)
        self.assertTrue(all(worth == (0, 1) for stand, worth, ask in table))
        for ask in (-1, 0, 1):
            self.assertIs(table_holds(WORTHLESS, put(table, 0, (FIRST, (0, 1), ask))), True)
        self.no(WORTHLESS, put(table, 0, (FIRST, (0, 1), 2)))

    def test_rows_left_out_twice_and_exchanged(self):
        for web in [ONE_TIE, FEW, APART, SURE, WEB]:
            table = table_of(web)
            for at in range(len(table)):
                # Each stand here is the first one, or stands behind a yes or a no.
                self.no(web, table[:at] + table[at + 1:])
                self.no(web, table[:at + 1] + table[at:])
            for at in range(len(table) - 1):
                self.no(web, table[:at] + (table[at + 1], table[at]) + table[at + 2:])

    def test_stands_that_never_come(self):
        for web in [FEW, APART, SURE] + random_webs(183, 12, 4, 3, 2):
            table = table_of_all_stands(web)
            self.assertIs(table_by_words(web, table), True)
            self.assertIs(table_holds(web, table), True)
        # Both ties asked, thing 0 and thing 2 taken: a stand, though none said yes to the two.
        row = (((0, 1), (0, 2)), (0, 1), -1)
        self.assertIs(table_holds(FEW, tuple(sorted(table_of(FEW) + (row,)))), True)
        self.no(FEW, table_of(FEW) + (row,))
        self.no(FEW, tuple(sorted(table_of(FEW) + ((row[0], (1, 1), -1),))))

    def test_rows_of_no_stands(self):
        for stand in (((0, 0), ()), ((1, 0), ()), ((2,), ()), ((-1,), ()), ((0,), (0,)), ((0,), (0, 2)),
                      ((0,), (1, 0)), ((), (0, 1)), ((0, 1), (0, 3)), ((0, 1), (0, 0))):
            self.no(FEW, tuple(sorted(table_of(FEW) + ((stand, (0, 1), -1),))))
        # Thing 1 bears one ask, and there is one in all.
        for web in ((3, FEW[1], (2, 1, 2), 2), (3, FEW[1], (2, 2, 2), 1)):
            self.assertIs(table_holds(web, table_of(web)), True)
            self.no(web, tuple(sorted(table_of(web) + ((((0, 1), ()), (0, 1), -1),))))

    def test_wrong_kinds(self):
        table = table_of(ONE_TIE)
        for thing in (None, True, 0, "", {}, [], (), list(table), tuple(list(row) for row in table), (None,) * 3,
                      put(table, 0, None), put(table, 0, ""), put(table, 0, {}), put(table, 0, table[0][:2]),
                      put(table, 0, table[0] + (0,)), put(table, 0, ([(), ()], (3, 2), 0)),
                      put(table, 0, (([], ()), (3, 2), 0)), put(table, 0, (((), []), (3, 2), 0)),
                      put(table, 0, (FIRST, [3, 2], 0)), put(table, 0, (FIRST, (6, 4), 0)),
                      put(table, 0, (FIRST, (-3, -2), 0)), put(table, 0, (FIRST, None, 0)),
                      put(table, 0, (FIRST, (3, 2), False)), put(table, 0, (None, (3, 2), 0)),
                      put(table, 1, (((False,), ()), (0, 1), -1)), put(table, 1, (((0,), ()), (False, 1), -1)),
                      put(table, 1, (((0,), ()), (0, True), -1)), put(table, 1, (((0,), ()), (0, 2), -1)),
                      put(table, 2, (((0,), (False, True)), (0, 1), -1)), put(table, 2, (((0,), (0, 1)), 0, -1))):
            self.no(ONE_TIE, thing)

    def test_webs_of_more_ties(self):
        # One ask in all, so there are few stands.
        for web in (GREAT[:3] + (1,), WIDE[:3] + (1,), WIDE[:3] + (0,)):
            table = table_of_one_ask(web)
            self.assertIs(table_holds(web, table), True)
            self.no(web, table[1:])
            for at in range(0, len(table), 5):
                self.no(web, put(table, at, (table[at][0], (1001, 1), table[at][2])))


class TableOf(unittest.TestCase):
    def test_by_examples(self):
        self.assertTrue(same(table_of(EMPTY), ((FIRST, (0, 1), -1),)))
        self.assertTrue(same(table_of(IMPATIENT), ((FIRST, (0, 1), -1),)))
        told = ((FIRST, (3, 2), 0), (((0,), ()), (0, 1), -1), (((0,), (0, 1)), (0, 1), -1))
        self.assertTrue(same(table_of(ONE_TIE), told))
        # Tie 1 first: 1/3 5 + 2/3 1/2 3; tie 0 first: 1/2 3 + 1/2 1/3 5.
        self.assertTrue(same(best_worth(FEW), (8, 3)))
        self.assertTrue(same(best_worth(APART), (19, 6)))
        self.assertTrue(same(best_worth(EMPTY), (0, 1)))

    def test_by_words(self):
        for web in SMALL + [WEB] + random_webs(191, 60, 6, 5) + random_webs(192, 12, 7, 7):
            table = table_of(web)
            self.assertIs(table_by_words(web, table), True, web)
            self.assertIs(table_holds(web, table), True, web)
            best = pair_of(best_by_words(web))
            self.assertTrue(same(worths_in(table)[FIRST], best))
            self.assertTrue(same(best_worth(web), best))
            self.assertTrue(same(table, table_of(web)))

    def test_seven_ties_and_eight(self):
        table = table_of(SEVEN)
        self.assertIs(table_holds(SEVEN, table), True)
        self.assertTrue(same(best_worth(SEVEN), pair_of(best_by_words(SEVEN))))
        tree = best_tree(SEVEN, table)
        self.assertIs(is_tree(SEVEN, tree), True)
        self.assertTrue(same(worth_of(SEVEN, tree), best_worth(SEVEN)))
        for many in (8, 9, 16):
            for web in (WIDE, GREAT):
                for question in (table_of, best_worth):
                    with self.assertRaises(TooMany):
                        question((web[0], web[1][:many]) + web[2:])

    def test_refused_ahead_of_any_other_work(self):
        # The stands of sixty ties could never be gone through, nor these ties be looked up.
        for ties in (((0, 1, (1, 2), 1),) * 60, (None,) * 8):
            for question in (table_of, best_worth):
                with self.assertRaises(TooMany):
                    question((2, ties, (20, 20), 40))

    def test_no_plan_is_worth_more(self):
        for web, tree in webs_and_trees(193, 80):
            self.assertLessEqual(Fraction(*worth_of(web, tree)), Fraction(*best_worth(web)))
        for web in [WEB] + random_webs(194, 10, 5, 4, 3):
            best = Fraction(*best_worth(web))
            for order in all_orders(min(len(web[1]), 4)):
                self.assertLessEqual(Fraction(*order_worth(web, order)), best)

    def test_no_yes_is_regretted(self):
        rng = random.Random(195)
        for web in [WEB, FEW, SURE] + random_webs(195, 60, 6, 5):
            table = with_other_asks(rng, web, table_of(web))
            worths = worths_in(table)
            for stand, worth, ask in table:
                if ask != -1 and web[1][ask][2][0] > 0:
                    yes, no = (Fraction(*worths[behind_by_words(web, stand, ask, truth)]) for truth in (True, False))
                    self.assertGreaterEqual(web[1][ask][3] + yes, no)

    def test_all_trees_of_two_ties(self):
        # Each tree of at most two ties, written out one by one.
        for web in [FEW, APART, SURE, WORTHLESS] + random_webs(196, 30, 4, 2, 2):
            worths = [Fraction(0)]
            for tie, other in itertools.product(range(len(web[1])), repeat=2):
                for tree in (((tie, -1, -1),), ((tie, 1, -1), (other, -1, -1)), ((tie, -1, 1), (other, -1, -1)),
                             ((tie, 1, 2), (other, -1, -1), (other, -1, -1))):
                    if is_tree(web, tree):
                        worths.append(Fraction(*worth_of(web, tree)))
            self.assertTrue(same(best_worth(web), pair_of(max(worths))))


class BestTree(unittest.TestCase):
    def look_over_tree(self, web, table):
        tree = best_tree(web, table)
        self.assertIs(is_tree(web, tree), True)
        asks = {stand: ask for stand, worth, ask in table}
        stands = stands_of(web, tree)
        self.assertEqual(len(tree) > 0, asks[FIRST] != -1)
        for (tie, yes, no), stand in zip(tree, stands):
            self.assertEqual(tie, asks[stand])
            for link, truth in ((yes, True), (no, False)):
                self.assertEqual(link == -1, asks[behind_by_words(web, stand, tie, truth)] == -1)
        self.assertTrue(same(worth_of(web, tree), worths_in(table)[FIRST]))
        self.assertTrue(same(tree, best_tree(web, table)))
        return tree

    def test_by_examples(self):
        self.assertTrue(same(best_tree(EMPTY, table_of(EMPTY)), ()))
        self.assertTrue(same(best_tree(ASKLESS, table_of(ASKLESS)), ()))
        self.assertTrue(same(best_tree(ONE_TIE, table_of(ONE_TIE)), ((0, -1, -1),)))
        self.assertTrue(same(best_tree(FEW, table_of(FEW)), ((1, -1, 1), (0, -1, -1))))

    def test_any_table_that_holds(self):
        rng = random.Random(201)
        for web in SMALL + [WEB, SEVEN] + random_webs(201, 40, 6, 5) + random_webs(202, 5, 7, 7):
            table = table_of(web)
            self.look_over_tree(web, table)
            for at in range(3):
                other = with_other_asks(rng, web, table)
                self.assertIs(table_holds(web, other), True)
                self.look_over_tree(web, other)
        for web in random_webs(203, 10, 4, 3, 2):
            self.look_over_tree(web, table_of_all_stands(web))

    def test_all_rows_of_answers(self):
        for web in [WEB] + random_webs(204, 40, 6, 5):
            tree = self.look_over_tree(web, table_of(web))
            self.assertTrue(same(by_answers(web, tree), best_worth(web)))
            for answers in rows_of_answers(web):
                look_over_run(self, web, run_tree(web, tree, answers))

    def test_over_all_rolls_the_average_is_the_worth(self):
        ties = ((0, 1, (1, 2), 10), (1, 2, (2, 3), 20), (0, 2, (3, 5), 5), (2, 3, (1, 1), 7), (0, 3, (0, 1), 9))
        web = (4, ties, (2, 3, 2, 2), 3)
        tree = best_tree(web, table_of(web))
        rolls = list(itertools.product(*[range(tie[2][1]) for tie in ties]))
        kept = sum(worth_kept(web, run_tree(web, tree, answers_of(web, row))) for row in rolls)
        self.assertTrue(same(best_worth(web), pair_of(Fraction(kept, len(rolls)))))


if __name__ == "__main__":
    unittest.main()
