"""Runs: rows of asks (tie, truth) in the order in which they were made."""


def kept_of(run):
    """Tell the ties of a run that said yes, in order."""
    return tuple([tie for tie, truth in run if truth])


def worth_kept(web, run):
    """Tell the sum of the worths of what a run keeps."""
    return sum([web[1][tie][3] for tie in kept_of(run)])


def answers_of(web, rolls):
    """Tell for each tie whether its roll is below the top of its chance."""
    return tuple([roll < tie[2][0] for tie, roll in zip(web[1], rolls)])
