"""Tables of wide stands: (asked, taken, known), where groups of ties answer together."""

from askedpairs.errors import refuse_above
from askedpairs.forms import is_number, is_row_of
from askedpairs.fractions import ONE
from askedpairs.stands import is_stand
from askedpairs.tablepaper import asks_at, both_ways, is_table_by, is_table_form
from askedpairs.tables import table_by

MOST_TIES_TOGETHER = 6
FIRST_WIDE = ((), (), ())


def is_said(thing):
    """Tell whether it is (number, truth)."""
    return is_row_of(thing, 2) and is_number(thing[0]) and isinstance(thing[1], bool)


def is_known(groups, asked, thing):
    """Tell of anything whether it has just the groups that have a tie in asked, each with a truth, rising."""
    if not isinstance(thing, tuple) or not all([is_said(part) for part in thing]):
        return False
    return [part[0] for part in thing] == [at for at, group in enumerate(groups)
                                           if any([tie in asked for tie in group])]


def is_wide_stand(web, groups, thing):
    """Tell of anything whether it is a wide stand."""
    return is_row_of(thing, 3) and is_stand(web, thing[:2]) and is_known(groups, thing[0], thing[2])


def wide_ways(web, groups, stand, tie):
    """Tell the ways of an ask: both, or the one that comes, where the group's answer is known."""
    known = dict(stand[2])
    group = [at for at, ties in enumerate(groups) if tie in ties][0]
    ways = []
    for truth, (share, kept, behind) in zip((True, False), both_ways(web, stand[:2], tie)):
        if group not in known:
            ways.append((share, kept, behind + (tuple(sorted(stand[2] + ((group, truth),))),)))
        elif known[group] == truth:
            ways.append((ONE, kept, behind + (stand[2],)))
    return tuple(ways)


def wide_ways_at(web, groups, stand):
    """Tell by each tie that may be asked at the wide stand its ways."""
    return {tie: wide_ways(web, groups, stand, tie) for tie in asks_at(web, stand[:2])}


def together_holds(web, groups, thing):
    """Tell of anything whether it is a table of wide stands."""
    if not is_table_form(thing) or not all([is_wide_stand(web, groups, row[0]) for row in thing]):
        return False
    return is_table_by(FIRST_WIDE, thing, {row[0]: wide_ways_at(web, groups, row[0]) for row in thing})


def together_table(web, groups):
    """Tell a table of wide stands."""
    refuse_above(len(web[1]), MOST_TIES_TOGETHER)
    return table_by(FIRST_WIDE, lambda stand: wide_ways_at(web, groups, stand))
