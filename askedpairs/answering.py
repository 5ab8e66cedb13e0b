"""A tree's worth by all rows of answers."""

from askedpairs.errors import refuse_above
from askedpairs.fractions import ONE, one_less, times, total
from askedpairs.runs import worth_kept
from askedpairs.trees import run_tree

MOST_TIES_BY_ANSWERS = 10


def chance_by(chances, answers):
    """Tell the chance of a row of answers by the chance of each yes."""
    product = ONE
    for chance, truth in zip(chances, answers):
        product = times(product, chance if truth else one_less(chance))
    return product


def chance_of(web, answers):
    """Tell the chance of a row of answers."""
    return chance_by([tie[2] for tie in web[1]], answers)


def all_answers(many):
    """Tell all rows of so many answers."""
    rows = [()]
    for at in range(many):
        rows = [row + (truth,) for row in rows for truth in (True, False)]
    return rows


def by_answers(web, tree):
    """Tell the average, over all rows of answers, of what the tree keeps."""
    refuse_above(len(web[1]), MOST_TIES_BY_ANSWERS)
    return total([times(chance_of(web, answers), (worth_kept(web, run_tree(web, tree, answers)), 1))
                  for answers in all_answers(len(web[1]))])
