"""A desk: one run of a web, led on and asked about line by line."""

from askedpairs.bounds import bound
from askedpairs.errors import TooMany
from askedpairs.fractions import ZERO
from askedpairs.lines import fraction_word, number_of, row_line
from askedpairs.runs import kept_of, worth_kept
from askedpairs.stands import FIRST_STAND, many_asks, may_ask, stand_behind
from askedpairs.tablepaper import asks_at
from askedpairs.tables import table_of
from askedpairs.trees import END


def stand_of_run(web, run):
    """Tell the stand behind all asks of a run."""
    stand = FIRST_STAND
    for tie, truth in run:
        stand = stand_behind(web, stand, tie, truth)
    return stand


def web_left(web, stand):
    """Tell the web of what is left at a stand."""
    things, ties, patience, asks = web
    asked, taken = stand
    still = tuple([tie if may_ask(web, stand, at) else tie[:2] + (ZERO,) + tie[3:] for at, tie in enumerate(ties)])
    left = tuple([0 if thing in taken else patience[thing] - many_asks(web, asked, thing) for thing in range(things)])
    return (things, still, left, asks - len(asked))


def may_line(web, run):
    """Tell the ties that may be asked now."""
    ties = asks_at(web, stand_of_run(web, run))
    return row_line(ties) if len(ties) > 0 else "none"


def best_line(web, run):
    """Tell what is best at this stand, and what it is worth."""
    try:
        table = table_of(web)
    except TooMany:
        return "TooMany"
    rows = {stand: (worth, ask) for stand, worth, ask in table}
    worth, ask = rows[stand_of_run(web, run)]
    return row_line(("stop",) if ask == END else ("ask", ask)) + " " + fraction_word(worth)


def bound_line(web, run):
    """Tell the bound's worth of what is left."""
    try:
        return fraction_word(bound(web_left(web, stand_of_run(web, run)))[0])
    except TooMany:
        return "TooMany"


def kept_line(web, run):
    """Tell the ties kept, and their worth."""
    kept = kept_of(run)
    return row_line((kept if len(kept) > 0 else ("none",)) + (worth_kept(web, run),))


def tie_to_ask(web, line):
    """Tell the tie that a line asks, or None, if it is no such line."""
    words = line.split(" ")
    if len(words) != 2 or words[0] != "ask":
        return None
    tie = number_of(words[1])
    return tie if tie is not None and tie < len(web[1]) else None


QUESTIONS = {"may": may_line, "best": best_line, "bound": bound_line, "kept": kept_line}


class Desk:
    """One run of a web: the asks that were answered, and the tie that waits for its answer."""

    def __init__(self, web):
        self.web = web
        self.run = ()
        self.waiting = None

    def say(self, line):
        """Take a line, and tell the line that answers it."""
        if not isinstance(line, str):
            return "NoWord"
        if line in ("yes", "no"):
            return self.take_answer(line == "yes")
        if line == "back":
            return self.take_back()
        if line in QUESTIONS:
            question = QUESTIONS[line]
            return question(self.web, self.run)
        tie = tie_to_ask(self.web, line)
        return "NoWord" if tie is None else self.take_ask(tie)

    def take_ask(self, tie):
        """Ask the tie, if none waits and it may be asked."""
        if self.waiting is not None or not may_ask(self.web, stand_of_run(self.web, self.run), tie):
            return "NoAsk"
        self.waiting = tie
        return "asked"

    def take_answer(self, truth):
        """Take the answer of the tie that waits."""
        if self.waiting is None:
            return "NoAsk"
        tie = self.waiting
        self.run = self.run + ((tie, truth),)
        self.waiting = None
        return f"kept {self.web[1][tie][3]}" if truth else "gone"

    def take_back(self):
        """Take the last ask back, answered or not."""
        if self.waiting is not None:
            self.waiting = None
        elif len(self.run) > 0:
            self.run = self.run[:-1]
        else:
            return "NoAsk"
        return "back"
