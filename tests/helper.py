"""What the tests share: webs, wrong things, and the document's words reckoned plainly."""

import copy
import itertools
import math
import random
import re
from fractions import Fraction

BIG = 10 ** 59 + 7


def nested(depth):
    thing = ()
    for at in range(depth):
        thing = (thing,) if at % 2 else [thing]
    return thing


ANYTHING = [
    None, True, False, 0, 1, 2, -1, -2, 3, 11, 12, 13, 100, BIG, -BIG, "", "0", "sides", "a b\nc~" * 300,
    (), [], {}, (0,), (1,), (-1,), (True,), (None,), ("",), [0], [(0, 1)], {0: 1}, {"a": (0, 1)},
    (0, 1), (1, 1), (1, 2), (2, 4), (0, 2), (1, 0), (1, -2), (-1, 2), (True, 1), (1, True), (False, True),
    [1, 2], (BIG, BIG + 1), ((0, 1),), ((1, 1),), ((), ()), [(), ()], ((), []), ([], ()), ((), (), ()),
    ((0,), ()), ((), (0,)), ((0,), (0, 1)), ((0, -1, -1),), [(0, -1, -1)], ((0, -1), (0, -1)), "()",
    (None, None), (None, None, None), (None, None, None, None), ("", "", "", ""), ({}, {}, {}, {}),
    (0, (), (), 0), [0, (), (), 0], (0, (), (), 0, 0), (0, (), ()), {0: 0, 1: (), 2: (), 3: 0},
    (1, 1, 1, 1), ("0000"), nested(20), tuple(range(20000)), list(range(20000)), ((0, 1),) * 5000,
    tuple([None] * 300), dict([(at, at) for at in range(9000)]), (0,) * 20000,
]

PARTS = [None, True, False, -1, -2, 0, 1, 2, 3, 7, 301, BIG, -BIG, "", "1", "no", (), (0,), (0, 1), (2, 2),
         [], [0], [0, 1], {}, {0: 1}]


def changed_here(thing):
    """The thing itself put otherwise: another part, another kind of row, parts left out, put in, turned about."""
    for part in PARTS:
        yield part
    if type(thing) is int:
        yield thing + 1
        yield thing - 1
        yield -thing
        yield str(thing)
        yield (thing,)
    if type(thing) is tuple:
        yield list(thing)
        yield dict(enumerate(thing))
        yield thing[::-1]
        yield (thing,)
        yield thing + thing
        for at in range(len(thing)):
            yield thing[:at] + thing[at + 1:]
            yield thing[:at + 1] + thing[at:]
        for at in range(len(thing) + 1):
            for part in (None, True, 0, 1, -1, (0, 1), "x", [], {}):
                yield thing[:at] + (part,) + thing[at:]
    if type(thing) is tuple and len(thing) == 2 and type(thing[0]) is int and type(thing[1]) is int:
        yield (2 * thing[0], 2 * thing[1])
        yield (-thing[0], -thing[1])
        yield (thing[0], thing[0])


def changed(thing):
    """Whatever comes of the thing by a change at one of its places, at any depth."""
    for other in changed_here(thing):
        yield other
    if type(thing) is tuple:
        for at in range(len(thing)):
            for other in changed(thing[at]):
                yield thing[:at] + (other,) + thing[at + 1:]


def look_over(test, checker, good, by_words, step=1):
    """The checker tells just what the words tell, of anything, of the good things and of them changed.

    Where the changes are too many, each step-th of them is looked at.
    """
    things = list(ANYTHING)
    for thing in good:
        test.assertIs(by_words(thing), True, thing)
        things.append(thing)
        things.extend(itertools.islice(changed(thing), None, None, step))
    for thing in things:
        before = copy.deepcopy(thing)
        told = checker(thing)
        test.assertIs(told, by_words(thing), repr(thing)[:300])
        test.assertIs(checker(thing), told)
        test.assertEqual(repr(thing), repr(before))


def look_over_run(test, web, run):
    """No tie asked twice, no taken thing, no thing above its patience, no more than there are asks in all."""
    ties = [tie for tie, truth in run]
    test.assertEqual(len(ties), len(set(ties)))
    test.assertLessEqual(len(ties), web[3])
    for thing in range(web[0]):
        test.assertLessEqual(asks_by_words(web, ties, thing), web[2][thing])
    taken = set()
    for tie, truth in run:
        test.assertFalse(taken & set(web[1][tie][:2]))
        taken |= set(web[1][tie][:2]) if truth else set()


def put(row, at, part):
    """The row with another part at one place."""
    return row[:at] + (part,) + row[at + 1:]


def same(one, other):
    """Alike in kind too: to Python True is 1."""
    return repr(one) == repr(other)


def is_int(thing, low, high):
    return type(thing) is int and low <= thing <= high


def is_row(thing):
    return type(thing) is tuple


def fraction_by_words(thing):
    return (is_row(thing) and len(thing) == 2 and type(thing[0]) is int and type(thing[1]) is int
            and thing[1] >= 1 and math.gcd(thing[0], thing[1]) == 1)


def pair_of(value):
    """A Fraction as the program tells it."""
    value = Fraction(value)
    return (value.numerator, value.denominator)


def rising_by_words(thing, many):
    return (is_row(thing) and all(is_int(part, 0, many - 1) for part in thing)
            and list(thing) == sorted(set(thing)))


def tie_by_words(thing, things):
    return (is_row(thing) and len(thing) == 4 and is_int(thing[0], 0, things - 1)
            and is_int(thing[1], 0, things - 1) and thing[0] < thing[1] and fraction_by_words(thing[2])
            and thing[2][1] <= 100 and 0 <= Fraction(*thing[2]) <= 1 and is_int(thing[3], 0, 1000))


def web_by_words(thing):
    return (is_row(thing) and len(thing) == 4 and is_int(thing[0], 0, 12)
            and is_row(thing[1]) and len(thing[1]) <= 16 and all(tie_by_words(tie, thing[0]) for tie in thing[1])
            and is_row(thing[2]) and len(thing[2]) == thing[0] and all(is_int(part, 0, 20) for part in thing[2])
            and is_int(thing[3], 0, 40))


def asks_by_words(web, asked, thing):
    return sum(1 for tie in asked if web[1][tie][0] == thing or web[1][tie][1] == thing)


def stand_by_words(web, thing):
    if not (is_row(thing) and len(thing) == 2 and rising_by_words(thing[0], len(web[1]))
            and rising_by_words(thing[1], web[0])):
        return False
    asked, taken = thing
    return (all(asks_by_words(web, asked, at) <= web[2][at] for at in range(web[0])) and len(asked) <= web[3]
            and len(taken) in (0, 2, 4, 6, 8, 10, 12) and all(asks_by_words(web, asked, at) for at in taken))


def may_by_words(web, stand, tie):
    asked, taken = stand
    one, other = web[1][tie][0], web[1][tie][1]
    return (tie not in asked and one not in taken and other not in taken
            and asks_by_words(web, asked, one) < web[2][one] and asks_by_words(web, asked, other) < web[2][other]
            and len(asked) < web[3])


def run_by_words(web, order, answers):
    """The asks of an order, by what each thing has borne so far."""
    left, taken, run = dict(enumerate(web[2])), set(), []
    for tie in order:
        one, other = web[1][tie][0], web[1][tie][1]
        if left[one] > 0 and left[other] > 0 and not {one, other} & taken and len(run) < web[3]:
            run.append((tie, answers[tie]))
            left[one] -= 1
            left[other] -= 1
            taken |= {one, other} if answers[tie] else set()
    return tuple(run)


def tree_form_by_words(web, thing):
    if not is_row(thing) or len(thing) > 300:
        return False
    told = []
    for at, node in enumerate(thing):
        if not (is_row(node) and len(node) == 3 and is_int(node[0], 0, len(web[1]) - 1)):
            return False
        for link in node[1:]:
            if type(link) is not int or not (link == -1 or link in range(at + 1, len(thing))):
                return False
            told.append(link)
    return all(told.count(at) == 1 for at in range(1, len(thing)))


def stands_by_words(web, tree):
    """Each node's stand, by the way that leads to it from the beginning."""
    stands = []
    for at in range(len(tree)):
        asked, taken = [], []
        while at != 0:
            told_by = [way for way, node in enumerate(tree) if at in node[1:]][0]
            tie = tree[told_by][0]
            asked.append(tie)
            taken.extend(web[1][tie][:2] if tree[told_by][1] == at else ())
            at = told_by
        stands.append((tuple(sorted(asked)), tuple(sorted(taken))))
    return tuple(stands)


def tree_by_words(web, thing):
    if not tree_form_by_words(web, thing):
        return False
    return all(may_by_words(web, stand, node[0]) for node, stand in zip(thing, stands_by_words(web, thing)))


def tree_run_by_words(tree, answers, at=0):
    if at == -1 or not tree:
        return ()
    tie, yes, no = tree[at]
    return ((tie, answers[tie]),) + tree_run_by_words(tree, answers, yes if answers[tie] else no)


def worth_by_words(web, tree, at):
    """A node's worth, by what the document says of it."""
    if at == -1:
        return Fraction(0)
    tie, yes, no = tree[at]
    chance, worth = Fraction(*web[1][tie][2]), web[1][tie][3]
    return chance * (worth + worth_by_words(web, tree, yes)) + (1 - chance) * worth_by_words(web, tree, no)


def reach_by_words(web, tree, at):
    if at == 0:
        return Fraction(1)
    for way, (tie, yes, no) in enumerate(tree):
        chance = Fraction(*web[1][tie][2])
        if at in (yes, no):
            return reach_by_words(web, tree, way) * (chance if at == yes else 1 - chance)


def worths_by_words(web, tree):
    return tuple(pair_of(worth_by_words(web, tree, at)) for at in range(len(tree)))


def reaches_by_words(web, tree):
    return tuple(pair_of(reach_by_words(web, tree, at)) for at in range(len(tree)))


def chance_by_words(web, answers):
    product = Fraction(1)
    for at, truth in enumerate(answers):
        product *= Fraction(*web[1][at][2]) if truth else 1 - Fraction(*web[1][at][2])
    return product


def behind_by_words(web, stand, tie, truth):
    taken = set(stand[1]) | set(web[1][tie][:2] if truth else ())
    return (tuple(sorted(set(stand[0]) | {tie})), tuple(sorted(taken)))


def layers_by_words(web, order):
    """Which stands come, one tie after another, with the chances of all ways that lead there."""
    layers = [{((), ()): Fraction(1)}]
    for tie in order:
        layer = {}
        for stand, chance in layers[-1].items():
            yes = Fraction(*web[1][tie][2])
            ways = [(stand, Fraction(1))]
            if may_by_words(web, stand, tie):
                ways = [(behind_by_words(web, stand, tie, True), yes),
                        (behind_by_words(web, stand, tie, False), 1 - yes)]
            for behind, share in ways:
                layer[behind] = layer.get(behind, 0) + chance * share
        layers.append({stand: chance for stand, chance in layer.items() if chance > 0})
    return tuple(tuple((stand, pair_of(layer[stand])) for stand in sorted(layer)) for layer in layers)


def average_by_words(web, kept_by):
    """The average, over all rows of answers, of what is told of each."""
    return sum((chance_by_words(web, answers) * kept_by(answers) for answers in rows_of_answers(web)), Fraction(0))


def kept_by_words(web, run):
    return sum(web[1][tie][3] for tie, truth in run if truth)


def order_worth_by_words(web, order):
    return average_by_words(web, lambda answers: kept_by_words(web, run_by_words(web, order, answers)))


def all_orders(many):
    return [order for size in range(many + 1) for order in itertools.permutations(range(many), size)]


def told_ask_by_words(web, worths, stand, tie):
    chance, worth = Fraction(*web[1][tie][2]), web[1][tie][3]
    yes, no = (Fraction(*worths[behind_by_words(web, stand, tie, truth)]) for truth in (True, False))
    return chance * (worth + yes) + (1 - chance) * no


def table_by_words(web, thing):
    if not is_row(thing):
        return False
    for row in thing:
        if not (is_row(row) and len(row) == 3 and stand_by_words(web, row[0]) and fraction_by_words(row[1])
                and row[1][0] >= 0 and is_int(row[2], -1, len(web[1]) - 1)):
            return False
    worths = {row[0]: row[1] for row in thing}
    if [row[0] for row in thing] != sorted(worths) or ((), ()) not in worths:
        return False
    for stand, worth, ask in thing:
        may = [tie for tie in range(len(web[1])) if may_by_words(web, stand, tie)]
        for tie in may:
            for truth in (True, False):
                if behind_by_words(web, stand, tie, truth) not in worths:
                    return False
        told = {tie: told_ask_by_words(web, worths, stand, tie) for tie in may}
        if any(told[tie] > Fraction(*worth) for tie in may):
            return False
        if not (ask in may and told[ask] == Fraction(*worth) or ask == -1 and worth == (0, 1)):
            return False
    return True


def best_by_words(web, stand=((), ()), known=None):
    """What the best plan from a stand on is worth, each ask tried with all that may follow."""
    known = {} if known is None else known
    if stand not in known:
        best = Fraction(0)
        for tie in range(len(web[1])):
            if may_by_words(web, stand, tie):
                chance, worth = Fraction(*web[1][tie][2]), web[1][tie][3]
                yes = best_by_words(web, behind_by_words(web, stand, tie, True), known)
                no = best_by_words(web, behind_by_words(web, stand, tie, False), known)
                best = max(best, chance * (worth + yes) + (1 - chance) * no)
        known[stand] = best
    return known[stand]


def pairings_by_words(web):
    """All pairings, each a rising row of ties."""
    told = []
    for size in range(len(web[1]) + 1):
        for ties in itertools.combinations(range(len(web[1])), size):
            things = [thing for tie in ties for thing in web[1][tie][:2]]
            if len(things) == len(set(things)):
                told.append(ties)
    return told


def ties_of_thing(web, thing):
    return [at for at, tie in enumerate(web[1]) if thing in (tie[0], tie[1])]


def shares_by_words(web, thing):
    if not (is_row(thing) and len(thing) == len(web[1]) and all(fraction_by_words(share) for share in thing)):
        return False
    shares = [Fraction(*share) for share in thing]
    kept = [share * Fraction(*tie[2]) for share, tie in zip(shares, web[1])]
    return (all(0 <= share <= 1 for share in shares) and sum(shares) <= web[3]
            and all(sum(kept[tie] for tie in ties_of_thing(web, at)) <= 1
                    and sum(shares[tie] for tie in ties_of_thing(web, at)) <= web[2][at] for at in range(web[0])))


def shares_worth_by_words(web, shares):
    return sum((Fraction(*share) * Fraction(*tie[2]) * tie[3] for share, tie in zip(shares, web[1])), Fraction(0))


def prices_by_words(web, thing):
    if not (is_row(thing) and len(thing) == 4):
        return False
    for row, many in ((thing[0], web[0]), (thing[1], web[0]), ((thing[2],), 1), (thing[3], len(web[1]))):
        if not (is_row(row) and len(row) == many and all(fraction_by_words(price) for price in row)
                and all(price[0] >= 0 for price in row)):
            return False
    keeping, bearing, once = ([Fraction(*price) for price in row] for row in (thing[0], thing[1], thing[3]))
    for at, (one, other, chance, worth) in enumerate(web[1]):
        paid = (Fraction(*chance) * keeping[one] + Fraction(*chance) * keeping[other] + bearing[one] + bearing[other]
                + Fraction(*thing[2]) + once[at])
        if paid < Fraction(*chance) * worth:
            return False
    return True


def prices_worth_by_words(web, prices):
    keeping, bearing, asking, once = prices
    worth = Fraction(*asking) * web[3]
    worth += sum(Fraction(*price) for price in keeping + once)
    return worth + sum(Fraction(*price) * patience for price, patience in zip(bearing, web[2]))


def pairing_by_words(web, thing):
    return rising_by_words(thing, len(web[1])) and all(
        not set(web[1][one][:2]) & set(web[1][other][:2]) for one, other in itertools.combinations(thing, 2))


def charges_by_words(web, kept, other, thing):
    if not is_row(thing) or len(thing) != len(other):
        return False
    for charge, tie in zip(thing, other):
        if not is_int(charge, 0, 10 ** 9) or charge not in kept:
            return False
        if not set(web[1][charge][:2]) & set(web[1][tie][:2]) or web[1][charge][3] < web[1][tie][3]:
            return False
    return True


def all_charges(web, kept, other):
    return [row for row in itertools.product(kept, repeat=len(other)) if charges_by_words(web, kept, other, row)]


def sides_by_words(web, thing):
    return (is_row(thing) and len(thing) == web[0] and all(is_int(side, 0, 1) for side in thing)
            and all(sorted((thing[tie[0]], thing[tie[1]])) == [0, 1] for tie in web[1]))


def ring_by_words(web, thing):
    if not (is_row(thing) and all(is_int(part, 0, web[0] - 1) for part in thing) and len(thing) == len(set(thing))
            and len(thing) in (3, 5, 7, 9, 11)):
        return False
    tied = {frozenset(tie[:2]) for tie in web[1]}
    return all({thing[at - 1], thing[at]} in tied for at in range(len(thing)))


def has_sides(web):
    return any(sides_by_words(web, row) for row in itertools.product((0, 1), repeat=web[0]))


def heaviest_by_words(web, thing):
    if not (is_row(thing) and len(thing) == 2 and pairing_by_words(web, thing[0]) and is_row(thing[1])
            and len(thing[1]) == web[0] and all(type(price) is int and price >= 0 for price in thing[1])):
        return False
    return (all(thing[1][tie[0]] + thing[1][tie[1]] >= tie[3] for tie in web[1])
            and sum(thing[1]) == worth_by_ties(web, thing[0]))


def worth_by_ties(web, ties):
    return sum(web[1][tie][3] for tie in ties)


def heaviest_worth_by_words(web, ties=None):
    """The worth of the heaviest pairing of all ties, or of some of them: each tie taken or left."""
    ties = range(len(web[1])) if ties is None else ties
    worths = {frozenset(): 0}
    for tie in ties:
        for taken, worth in list(worths.items()):
            if not taken & set(web[1][tie][:2]):
                both = taken | set(web[1][tie][:2])
                worths[both] = max(worths.get(both, 0), worth + web[1][tie][3])
    return max(worths.values())


def groups_by_words(web, thing):
    if not (is_row(thing) and all(rising_by_words(group, len(web[1])) and group for group in thing)):
        return False
    return (sorted(tie for group in thing for tie in group) == list(range(len(web[1])))
            and all(len({web[1][tie][2] for tie in group}) == 1 for group in thing)
            and all(one[0] < other[0] for one, other in zip(thing, thing[1:])))


def together_chance_by_words(web, groups, answers):
    product = Fraction(1)
    for group, truth in zip(groups, answers):
        chance = Fraction(*web[1][group[-1]][2])
        product *= chance if truth else 1 - chance
    return product


def ties_say(web, groups, answers):
    """What each tie says, where each of its group says so."""
    return tuple(answers[at] for tie in range(len(web[1])) for at in range(len(groups)) if tie in groups[at])


def together_worth_by_words(web, groups, tree):
    return sum((together_chance_by_words(web, groups, answers)
                * kept_by_words(web, tree_run_by_words(tree, ties_say(web, groups, answers)))
                for answers in itertools.product((True, False), repeat=len(groups))), Fraction(0))


def wide_by_words(web, groups, thing):
    if not (is_row(thing) and len(thing) == 3 and stand_by_words(web, thing[:2]) and is_row(thing[2])):
        return False
    for said in thing[2]:
        if not (is_row(said) and len(said) == 2 and type(said[0]) is int and type(said[1]) is bool):
            return False
    touched = {at for at, group in enumerate(groups) if set(group) & set(thing[0])}
    return [said[0] for said in thing[2]] == sorted(touched)


def wide_behind_by_words(web, groups, stand, tie):
    """The wide stands that may come behind an ask, by the truth that leads there."""
    group = [at for at in range(len(groups)) if tie in groups[at]][0]
    said = [truth for at, truth in stand[2] if at == group]
    return {truth: behind_by_words(web, stand[:2], tie, truth) + (tuple(sorted(set(stand[2]) | {(group, truth)})),)
            for truth in said or (True, False)}


def told_wide_by_words(web, groups, worths, stand, tie):
    behind = {truth: Fraction(*worths[wide]) for truth, wide in wide_behind_by_words(web, groups, stand, tie).items()}
    chance, worth = Fraction(*web[1][tie][2]), web[1][tie][3]
    if len(behind) == 1:
        return worth + behind[True] if True in behind else behind[False]
    return chance * (worth + behind[True]) + (1 - chance) * behind[False]


def together_by_words(web, groups, thing):
    if not is_row(thing):
        return False
    for row in thing:
        if not (is_row(row) and len(row) == 3 and wide_by_words(web, groups, row[0]) and fraction_by_words(row[1])
                and row[1][0] >= 0 and is_int(row[2], -1, len(web[1]) - 1)):
            return False
    worths = {row[0]: row[1] for row in thing}
    if [row[0] for row in thing] != sorted(worths) or ((), (), ()) not in worths:
        return False
    for stand, worth, ask in thing:
        may = [tie for tie in range(len(web[1])) if may_by_words(web, stand[:2], tie)]
        for tie in may:
            if not set(wide_behind_by_words(web, groups, stand, tie).values()) <= set(worths):
                return False
        told = {tie: told_wide_by_words(web, groups, worths, stand, tie) for tie in may}
        if any(told[tie] > Fraction(*worth) for tie in may):
            return False
        if not (ask in may and told[ask] == Fraction(*worth) or ask == -1 and worth == (0, 1)):
            return False
    return True


def best_together_by_words(web, groups):
    """What the best plan is worth, by the rows of groups' answers that may still be, each with its chance."""
    chances = {ties_say(web, groups, answers): together_chance_by_words(web, groups, answers)
               for answers in itertools.product((True, False), repeat=len(groups))}
    known = {}

    def best(stand, rows):
        if not rows:
            return Fraction(0)
        if (stand, rows) not in known:
            worth = Fraction(0)
            for tie in range(len(web[1])):
                if may_by_words(web, stand, tie):
                    yes, no = (tuple(row for row in rows if row[tie] is truth) for truth in (True, False))
                    kept = web[1][tie][3] * sum((chances[row] for row in yes), Fraction(0))
                    worth = max(worth, kept + best(behind_by_words(web, stand, tie, True), yes)
                                + best(behind_by_words(web, stand, tie, False), no))
            known[stand, rows] = worth
        return known[stand, rows]

    return best(((), ()), tuple(chances))


def single_groups(web):
    return tuple((tie,) for tie in range(len(web[1])))


def random_groups(rng, web):
    """Groups drawn anywhere among the ties of one chance."""
    groups = {}
    for at, tie in enumerate(web[1]):
        groups.setdefault((tie[2], rng.randrange(3)), []).append(at)
    return tuple(sorted(tuple(group) for group in groups.values()))


def webs_and_groups(seed, many, most_things=6, most_ties=6, most_patience=4, chances=((1, 2), (1, 3), (3, 4))):
    rng = random.Random(seed)
    told = []
    for web in random_webs(seed, many, most_things, most_ties, most_patience):
        web = put(web, 1, tuple(tie[:2] + (rng.choice(chances), tie[3]) for tie in web[1]))
        told.append((web, random_groups(rng, web)))
    return told


def text_by_words(web):
    return (f"things {web[0]} asks {web[3]}\n" + "".join(f"thing {part}\n" for part in web[2])
            + "".join(f"tie {tie[0]} {tie[1]} {tie[2][0]}/{tie[2][1]} {tie[3]}\n" for tie in web[1]))


def read_by_words(thing):
    """The web that a text tells, or None, if it tells none."""
    number = "(0|[1-9][0-9]*)"
    if type(thing) is not str or not thing.endswith("\n"):
        return None
    head, *lines = thing[:-1].split("\n")
    first = re.fullmatch(f"things {number} asks {number}", head)
    if not first:
        return None
    things, asks = map(int, first.groups())
    patience = [re.fullmatch(f"thing {number}", line) for line in lines[:things]]
    ties = [re.fullmatch(f"tie {number} {number} {number}/{number} {number}", line) for line in lines[things:]]
    if not all(patience) or not all(ties):
        return None
    numbers = [tuple(map(int, tie.groups())) for tie in ties]
    web = (things, tuple((one, other, (top, bottom), worth) for one, other, top, bottom, worth in numbers),
           tuple(int(part[1]) for part in patience), asks)
    return web if web_by_words(web) else None


def rows_of_answers(web):
    return list(itertools.product((True, False), repeat=len(web[1])))


CHANCES = [(0, 1), (1, 1), (1, 2), (1, 3), (2, 3), (3, 4), (1, 100), (99, 100), (37, 97)]


def with_ties(web, many):
    return (web[0], web[1][:many]) + web[2:]


def random_web(rng, most_things=6, most_ties=6, most_patience=4):
    things = rng.randint(2, most_things)
    ties = []
    for at in range(rng.randint(0, most_ties)):
        one, other = sorted(rng.sample(range(things), 2))
        ties.append((one, other, rng.choice(CHANCES), rng.choice([0, 1, 2, 5, 10, 999, 1000])))
    patience = tuple(rng.randint(0, most_patience) for at in range(things))
    return (things, tuple(ties), patience, rng.randint(0, most_ties + 1))


def random_webs(seed, many, most_things=6, most_ties=6, most_patience=4):
    rng = random.Random(seed)
    return [random_web(rng, most_things, most_ties, most_patience) for at in range(many)]


def two_sided_web(rng, most_things=12, most_ties=16, worths=(0, 1, 2, 5, 10, 999, 1000)):
    """A web in which each tie has one thing of either side, the sides drawn."""
    things = rng.randint(2, most_things)
    sides = [rng.randrange(2) for at in range(things)]
    pairs = [pair for pair in itertools.combinations(range(things), 2) if sides[pair[0]] != sides[pair[1]]]
    many = rng.randint(0, most_ties) if pairs else 0
    ties = tuple(rng.choice(pairs) + (rng.choice(CHANCES), rng.choice(worths)) for at in range(many))
    return (things, ties, tuple(rng.randint(0, 4) for at in range(things)), rng.randint(0, 9))


def two_sided_webs(seed, many, most_things=12, most_ties=16, worths=(0, 1, 2, 5, 10, 999, 1000)):
    rng = random.Random(seed)
    return [two_sided_web(rng, most_things, most_ties, worths) for at in range(many)]


def raised_webs(web):
    """The web with one chance, worth, patience, or its asks raised."""
    things, ties, patience, asks = web
    for at, (one, other, chance, worth) in enumerate(ties):
        higher = pair_of(min(Fraction(1), Fraction(*chance) + Fraction(1, 7)))
        yield (things, put(ties, at, (one, other, higher, worth)), patience, asks)
        yield (things, put(ties, at, (one, other, chance, worth + 3)), patience, asks)
    for at in range(things):
        yield (things, ties, put(patience, at, patience[at] + 1), asks)
    yield (things, ties, patience, asks + 1)


def enough_webs(webs):
    """The same webs, patience and asks being just enough for all ties."""
    return [(web[0], web[1], tuple(len(ties_of_thing(web, thing)) for thing in range(web[0])), len(web[1]))
            for web in webs]


def ties_between(pairs, worths=None, chance=(1, 2)):
    """A row of ties of these things, of one chance."""
    worths = [1] * len(pairs) if worths is None else worths
    return tuple((one, other, chance, worth) for (one, other), worth in zip(pairs, worths))


def grow_tree(rng, web, most):
    """A tree of at most so many nodes, grown anywhere, so numbered in any way that goes upward."""
    nodes, open_ends = [], [(None, None, ((), ()))]
    while open_ends and len(nodes) < most:
        told_by, truth, stand = open_ends.pop(rng.randrange(len(open_ends)))
        ties = [tie for tie in range(len(web[1])) if may_by_words(web, stand, tie)]
        if ties:
            tie = rng.choice(ties)
            if told_by is not None:
                nodes[told_by][1 if truth else 2] = len(nodes)
            asked = tuple(sorted(stand[0] + (tie,)))
            open_ends.append((len(nodes), True, (asked, tuple(sorted(stand[1] + web[1][tie][:2])))))
            open_ends.append((len(nodes), False, (asked, stand[1])))
            nodes.append([tie, -1, -1])
    return tuple(tuple(node) for node in nodes)


def webs_and_trees(seed, many, most_nodes=12, most_things=6, most_ties=6):
    rng = random.Random(seed)
    told = []
    for web in random_webs(seed, many, most_things, most_ties):
        told.append((web, grow_tree(rng, web, rng.randint(0, most_nodes))))
    return told


# A triangle with a tail, its first tie there twice.
WEB = (4, ((0, 1, (1, 2), 10), (1, 2, (1, 3), 20), (0, 2, (3, 4), 5), (2, 3, (1, 1), 7), (0, 1, (0, 1), 1000)),
       (2, 3, 2, 1), 4)
EMPTY = (0, (), (), 0)
# Every number at its greatest.
GREAT = (12, tuple((at % 11, 11, (99, 100), 1000) for at in range(16)), (20,) * 12, 40)
# Six pairs apart, most of them with three ties: trees of it may have a great many nodes.
WIDE = (12, tuple((2 * (at % 6), 2 * (at % 6) + 1, CHANCES[at % 9], at) for at in range(16)), (20,) * 12, 40)
# A tree of WEB that asks ties of chance 0 and 1, its nodes numbered across.
TREE = ((0, 2, 1), (1, -1, 3), (3, -1, -1), (4, 4, 5), (3, -1, -1), (3, -1, -1))
