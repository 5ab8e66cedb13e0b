"""Groups: ties whose answers hang together."""

from askedpairs.answering import all_answers, chance_by
from askedpairs.errors import refuse_above
from askedpairs.forms import is_rising_row
from askedpairs.fractions import ZERO, plus, times
from askedpairs.runs import worth_kept
from askedpairs.trees import run_tree

MOST_GROUPS = 8


def is_group(web, thing):
    """Tell of anything whether it is a rising row of ties of one chance, and not empty."""
    if not is_rising_row(thing, len(web[1])) or len(thing) == 0:
        return False
    return all([web[1][tie][2] == web[1][thing[0]][2] for tie in thing])


def is_groups(web, thing):
    """Tell of anything whether it is groups of the web's ties."""
    if not isinstance(thing, tuple) or not all([is_group(web, group) for group in thing]):
        return False
    firsts = [group[0] for group in thing]
    ties = [tie for group in thing for tie in group]
    return firsts == sorted(firsts) and sorted(ties) == list(range(len(web[1])))


def together_answers(web, groups, answers):
    """Tell the answers of the ties by those of the groups."""
    said = {tie: truth for group, truth in zip(groups, answers) for tie in group}
    return tuple([said[tie] for tie in range(len(web[1]))])


def together_worth(web, groups, tree):
    """Tell the average, over all rows of groups' answers, of what the tree keeps."""
    refuse_above(len(groups), MOST_GROUPS)
    chances = [web[1][group[0]][2] for group in groups]
    worth = ZERO
    for answers in all_answers(len(groups)):
        run = run_tree(web, tree, together_answers(web, groups, answers))
        worth = plus(worth, times(chance_by(chances, answers), (worth_kept(web, run), 1)))
    return worth
