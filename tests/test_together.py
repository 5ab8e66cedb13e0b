import itertools
import random
import unittest
from fractions import Fraction

from askedpairs.errors import PairsError, TooMany
from askedpairs.groups import is_groups, together_worth
from askedpairs.tables import best_worth
from askedpairs.together import together_holds, together_table
from askedpairs.trees import is_tree
from tests.helper import (EMPTY, GREAT, WEB, WIDE, best_together_by_words, grow_tree, look_over, may_by_words, pair_of,
                          put, random_webs, same, single_groups, stand_by_words, ties_between, together_by_words,
                          told_wide_by_words, webs_and_groups, wide_behind_by_words, wide_by_words, with_ties)

FIRST = ((), (), ())
ONE_TIE = ((2, ((0, 1, (1, 2), 3),), (1, 1), 1), ((0,),))
# Two ties apart that answer together.
MATES = ((4, ties_between([(0, 1), (2, 3)], [3, 5], (1, 3)), (1,) * 4, 2), ((0, 1),))
# Thing 1 bears one ask alone; the mate of its heavy tie is asked first, to know what that will say.
SPY = ((5, ((0, 1, (1, 2), 10), (1, 2, (1, 1), 6), (3, 4, (1, 2), 0)), (1,) * 5, 2), ((0, 2), (1,)))
TWO_OF_TWO = ((4, ties_between([(0, 1), (1, 2), (2, 3), (0, 3)], [3, 5, 2, 4]), (2,) * 4, 4), ((0, 2), (1, 3)))
SURE = ((4, ties_between([(0, 1), (2, 3)], [3, 5], (1, 1)), (1,) * 4, 2), ((0, 1),))
NEVER = ((4, ties_between([(0, 1), (2, 3)], [3, 5], (0, 1)), (1,) * 4, 2), ((0, 1),))
ASKLESS = ((4, MATES[0][1], (1,) * 4, 0), ((0, 1),))
SMALL = [(EMPTY, ()), ONE_TIE, MATES, SPY, SURE, NEVER, ASKLESS, (MATES[0], ((0,), (1,)))]


def worths_in(table):
    return {stand: worth for stand, worth, ask in table}


def tree_by_table(web, groups, table):
    """The tree that asks what the table tells; behind an answer that can't be it ends."""
    asks = {stand: ask for stand, worth, ask in table}
    nodes = []

    def grow(stand):
        if asks[stand] == -1:
            return -1
        at = len(nodes)
        nodes.append(None)
        behind = wide_behind_by_words(web, groups, stand, asks[stand])
        nodes[at] = (asks[stand],) + tuple(grow(behind[truth]) if truth in behind else -1 for truth in (True, False))
        return at

    grow(FIRST)
    return tuple(nodes)


def all_wide_stands(web, groups):
    rows = [[row for size in range(many + 1) for row in itertools.combinations(range(many), size)]
            for many in (len(web[1]), web[0])]
    told = []
    for stand in itertools.product(*rows):
        if stand_by_words(web, stand):
            touched = [at for at, group in enumerate(groups) if set(group) & set(stand[0])]
            for truths in itertools.product((True, False), repeat=len(touched)):
                told.append(stand + (tuple(zip(touched, truths)),))
    return sorted(told)


def table_of_all(web, groups):
    """The table of all wide stands by the words, also such as never come."""
    rows = {}
    for stand in sorted(all_wide_stands(web, groups), key=lambda stand: -len(stand[0])):
        told = {tie: told_wide_by_words(web, groups, {other: row[1] for other, row in rows.items()}, stand, tie)
                for tie in range(len(web[1])) if may_by_words(web, stand[:2], tie)}
        worth = max(told.values(), default=Fraction(0))
        asks = [tie for tie in told if told[tie] == worth]
        rows[stand] = (stand, pair_of(worth), asks[-1] if asks else -1)
    return tuple(rows[stand] for stand in sorted(rows))


class TogetherHolds(unittest.TestCase):
    def no(self, web, groups, thing):
        self.assertIs(together_holds(web, groups, thing), False, thing)

    def test_by_examples(self):
        self.assertIs(together_holds(EMPTY, (), ((FIRST, (0, 1), -1),)), True)
        self.assertIs(together_holds(*ASKLESS, ((FIRST, (0, 1), -1),)), True)
        table = ((FIRST, (3, 2), 0), (((0,), (), ((0, False),)), (0, 1), -1),
                 (((0,), (0, 1), ((0, True),)), (0, 1), -1))
        self.assertIs(together_holds(*ONE_TIE, table), True)
        self.no(*ONE_TIE, ((FIRST, (0, 1), -1),))
        self.no(EMPTY, (), ())
        # Stands of two parts, of four parts.
        self.no(EMPTY, (), ((((), ()), (0, 1), -1),))
        self.no(EMPTY, (), ((((), (), (), ()), (0, 1), -1),))

    def test_of_a_known_group_one_stand_is_enough(self):
        yes, no = ((0, True),), ((0, False),)
        table = ((FIRST, (8, 3), 0),
                 (((0,), (), no), (0, 1), 1), (((0,), (0, 1), yes), (5, 1), 1),
                 (((0, 1), (), no), (0, 1), -1), (((0, 1), (0, 1, 2, 3), yes), (0, 1), -1),
                 (((1,), (), no), (0, 1), -1), (((1,), (2, 3), yes), (3, 1), 0))
        self.assertIs(together_by_words(*MATES, table), True)
        self.assertIs(together_holds(*MATES, table), True)
        for at in range(7):
            self.no(*MATES, table[:at] + table[at + 1:])
        # The other stand may be there, too.
        more = tuple(sorted(table + ((((0, 1), (), yes), (0, 1), -1),)))
        self.assertIs(together_holds(*MATES, more), True)
        # Where each answers for itself it has to be there.
        self.no(MATES[0], ((0,), (1,)), table)

    def test_whatever_the_chance_both_stands_are_there(self):
        for web, groups in (SURE, NEVER):
            table = together_table(web, groups)
            self.assertIs(together_holds(web, groups, table), True)
            for at in range(len(table)):
                self.no(web, groups, table[:at] + table[at + 1:])

    def test_known(self):
        web, groups = SPY
        table = together_table(web, groups)
        rows = [row for row in table if len(row[0][2]) > 0]
        self.assertGreater(len(rows), 5)
        for row in rows:
            at = table.index(row)
            asked, taken, known = row[0]
            for other in (known[1:], known[:-1], known + known[-1:], known[:1] + known, known[::-1] if len(known) > 1
                          else (), known + ((2, True),), known + ((-1, True),), ((-1, False),) + known,
                          tuple((group, int(truth)) for group, truth in known), list(known),
                          tuple(list(said) for said in known), tuple((bool(group), truth) for group, truth in known),
                          tuple((group, None) for group, truth in known), tuple(group for group, truth in known),
                          tuple((str(group), truth) for group, truth in known), known + ((),), known + (None,),
                          tuple((group, truth, truth) for group, truth in known), dict(known), None, True, "", 0):
                if not same(other, known):
                    self.no(web, groups, put(table, at, ((asked, taken, other),) + row[1:]))
            # One group told twice, with both truths.
            twice = tuple(sorted(known + ((known[0][0], not known[0][1]),)))
            self.no(web, groups, put(table, at, ((asked, taken, twice),) + row[1:]))
            # A group that wasn't asked.
            if len(known) == 1:
                more = tuple(sorted(known + ((1 - known[0][0], True),)))
                self.no(web, groups, put(table, at, ((asked, taken, more),) + row[1:]))
        self.no(web, groups, put(table, 0, (((), (), ((0, True),)),) + table[0][1:]))

    def test_what_has_been_said_is_not_looked_at_further(self):
        # Tie 0 is in asked, both things taken, though its group has said no: a wide stand, though it never comes.
        web, groups = MATES
        table = together_table(web, groups)
        odd = (((0, 1), (0, 1), ((0, False),)), (0, 1), -1)
        self.assertIs(together_holds(web, groups, tuple(sorted(table + (odd,)))), True)
        self.no(web, groups, table + (odd,) if table[-1][0] > odd[0] else (odd,) + table)
        # From such a stand on, too, the stands behind its asks have to be there.
        odd = (((0,), (0, 1), ((0, False),)), (0, 1), 1)
        self.no(web, groups, tuple(sorted(table + (odd,))))
        behind = (((0, 1), (0, 1), ((0, False),)), (0, 1), -1)
        self.assertIs(together_holds(web, groups, tuple(sorted(table + (odd, behind)))), True)

    def test_stands_that_never_come(self):
        for web, groups in SMALL + webs_and_groups(511, 10, 4, 3, 2):
            table = table_of_all(web, groups)
            self.assertIs(together_by_words(web, groups, table), True)
            self.assertIs(together_holds(web, groups, table), True)

    def test_anything(self):
        for web, groups in SMALL:
            look_over(self, lambda thing: together_holds(web, groups, thing), [together_table(web, groups)],
                      lambda thing: together_by_words(web, groups, thing), 3)

    def test_anything_of_larger_tables(self):
        for web, groups in [TWO_OF_TWO, (WEB, single_groups(WEB))] + webs_and_groups(512, 3, 5, 4, 3):
            look_over(self, lambda thing: together_holds(web, groups, thing), [together_table(web, groups)],
                      lambda thing: together_by_words(web, groups, thing), 301)

    def test_rows_left_out_twice_and_exchanged(self):
        for web, groups in [ONE_TIE, MATES, SPY, TWO_OF_TWO]:
            table = together_table(web, groups)
            for at in range(len(table)):
                self.no(web, groups, table[:at] + table[at + 1:])
                self.no(web, groups, table[:at + 1] + table[at:])
            for at in range(len(table) - 1):
                self.no(web, groups, table[:at] + (table[at + 1], table[at]) + table[at + 2:])

    def test_worths_changed(self):
        for web, groups in [MATES, SPY, TWO_OF_TWO]:
            table = together_table(web, groups)
            for at, (stand, worth, ask) in enumerate(table):
                for step in (Fraction(1), Fraction(1, 100), Fraction(-1, 100), Fraction(-1)):
                    self.no(web, groups, put(table, at, (stand, pair_of(Fraction(*worth) + step), ask)))

    def test_asks_changed(self):
        for web, groups in [MATES, SPY, TWO_OF_TWO, NEVER]:
            table = together_table(web, groups)
            worths = worths_in(table)
            for at, (stand, worth, ask) in enumerate(table):
                for tie in range(len(web[1])):
                    fits = (may_by_words(web, stand[:2], tie)
                            and told_wide_by_words(web, groups, worths, stand, tie) == Fraction(*worth))
                    self.assertIs(together_holds(web, groups, put(table, at, (stand, worth, tie))), fits)
                self.assertIs(together_holds(web, groups, put(table, at, (stand, worth, -1))), worth == (0, 1))
                for wrong in (-2, len(web[1]), None, True, False, "0", (ask,), [ask], {}):
                    self.no(web, groups, put(table, at, (stand, worth, wrong)))

    def test_tables_of_other_groups(self):
        for web, groups in [MATES, SPY, TWO_OF_TWO, SURE] + webs_and_groups(513, 15, 4, 4, 2):
            for other in (groups, single_groups(web)):
                table = together_table(web, other)
                self.assertIs(together_holds(web, groups, table), together_by_words(web, groups, table))

    def test_webs_of_more_ties(self):
        # One ask in all, so there are few stands.
        for web, groups in ((GREAT[:3] + (1,), (tuple(range(16)),)), (WIDE[:3] + (1,), single_groups(WIDE))):
            behind = []
            for tie in range(16):
                group = [at for at in range(len(groups)) if tie in groups[at]][0]
                behind += [(((tie,), web[1][tie][:2] if truth else (), ((group, truth),)), (0, 1), -1)
                           for truth in (True, False)]
            worth, ask = max((Fraction(*tie[2]) * tie[3], at) for at, tie in enumerate(web[1]))
            table = tuple(sorted([(FIRST, pair_of(worth), ask)] + behind))
            self.assertIs(together_holds(web, groups, table), True)
            self.no(web, groups, table[:-1])
            self.no(web, groups, table[1:])


class TogetherTable(unittest.TestCase):
    def look_over_table(self, web, groups):
        table = together_table(web, groups)
        self.assertTrue(same(table, together_table(web, groups)))
        self.assertIs(together_by_words(web, groups, table), True, (web, groups))
        self.assertIs(together_holds(web, groups, table), True)
        for stand, worth, ask in table:
            self.assertIs(wide_by_words(web, groups, stand), True)
        worth = worths_in(table)[FIRST]
        self.assertTrue(same(worth, pair_of(best_together_by_words(web, groups))), (web, groups))
        return table

    def test_by_examples(self):
        self.assertTrue(same(together_table(EMPTY, ()), ((FIRST, (0, 1), -1),)))
        self.assertTrue(same(together_table(*ASKLESS), ((FIRST, (0, 1), -1),)))
        self.assertTrue(same(worths_in(together_table(*ONE_TIE))[FIRST], (3, 2)))
        # Both or none.
        self.assertTrue(same(worths_in(together_table(*MATES))[FIRST], (8, 3)))
        # Its mate says yes, then the heavy tie is asked, else the sure one: (10 + 6) / 2.
        self.assertTrue(same(worths_in(together_table(*SPY))[FIRST], (8, 1)))
        self.assertEqual(together_table(*SPY)[0][2], 2)
        self.assertTrue(same(best_worth(SPY[0]), (6, 1)))
        # With one ask there is none left for the mate.
        one_ask = put(SPY[0], 3, 1)
        self.assertTrue(same(worths_in(together_table(one_ask, SPY[1]))[FIRST], (6, 1)))
        self.assertTrue(same(worths_in(together_table(*SURE))[FIRST], (8, 1)))
        self.assertTrue(same(worths_in(together_table(*NEVER))[FIRST], (0, 1)))

    def test_by_words(self):
        webs = SMALL + [TWO_OF_TWO] + webs_and_groups(521, 50, 6, 5) + webs_and_groups(522, 12, 7, 6)
        for web, groups in webs + webs_and_groups(523, 20, 5, 5, 4, ((0, 1), (1, 1), (1, 2))):
            self.look_over_table(web, groups)

    def test_groups_of_one_tie_each(self):
        for web in [WEB, EMPTY, with_ties(WIDE, 6)] + random_webs(524, 40, 6, 6):
            table = self.look_over_table(web, single_groups(web))
            self.assertTrue(same(worths_in(table)[FIRST], best_worth(web)))

    def test_no_tree_is_worth_more(self):
        rng = random.Random(525)
        for web, groups in [MATES, SPY, TWO_OF_TWO] + webs_and_groups(525, 40):
            best = Fraction(*worths_in(together_table(web, groups))[FIRST])
            for most in (2, 5, 60):
                tree = grow_tree(rng, web, most)
                self.assertLessEqual(Fraction(*together_worth(web, groups, tree)), best)

    def test_its_tree_is_worth_just_that(self):
        for web, groups in SMALL + [TWO_OF_TWO] + webs_and_groups(526, 40):
            table = together_table(web, groups)
            tree = tree_by_table(web, groups, table)
            self.assertIs(is_tree(web, tree), True)
            self.assertTrue(same(together_worth(web, groups, tree), worths_in(table)[FIRST]))

    def test_six_ties_and_seven(self):
        for web in (WIDE, GREAT):
            six = with_ties(web, 6)
            self.look_over_table(six, single_groups(six))
            for many in (7, 8, 16):
                more = with_ties(web, many)
                with self.assertRaises(TooMany) as caught:
                    together_table(more, single_groups(more))
                self.assertIsInstance(caught.exception, PairsError)
        # Ties are counted, not groups.
        self.assertIs(is_groups(with_ties(GREAT, 7), (tuple(range(7)),)), True)
        with self.assertRaises(TooMany):
            together_table(with_ties(GREAT, 7), (tuple(range(7)),))
        self.look_over_table(with_ties(GREAT, 6), (tuple(range(6)),))

    def test_refused_ahead_of_any_other_work(self):
        for ties in (((0, 1, (1, 2), 1),) * 60, (None,) * 7):
            with self.assertRaises(TooMany):
                together_table((2, ties, (20, 20), 40), ((0,),))


if __name__ == "__main__":
    unittest.main()
