import random
import re
import unittest
from fractions import Fraction

from askedpairs.bounds import bound
from askedpairs.desk import Desk
from askedpairs.tables import best_worth
from tests.helper import (ANYTHING, EMPTY, GREAT, WEB, WIDE, asks_by_words, behind_by_words, best_by_words, may_by_words,
                          put, random_webs, same, ties_between, with_ties)

LINES = ("yes", "no", "may", "best", "bound", "kept", "back")
NO_LINES = ("", " ", "ask", "ask ", "ask  1", " ask 1", "ask 1 ", "ask 01", "ask 00", "ask +1", "ask -1", "ask -0",
            "ask 1.0", "ask 1_0", "ask x", "ask one", "Ask 1", "ASK 1", "ask1", "ask\t1", "ask 1\n", "ask 1\r", "\nask 1",
            "ask 1 1", "ask 0 1", "ask 1,", "ask 0x1", "ask 1e0", "1", "ask None", "ask True", "ask K",
            "ask " + "1" * 60, "ask " + "1" * 1990, "ask " + "0" * 1990, "ask \u0661", "ask \u00b2", "ask \uff11",
            "may ", " may", "may\n", "May", "MAY", "may 1", "mayy", "ma", "yes ", " yes", "Yes", "YES", "yes\n", "y",
            "yes 1", "yes no", "no ", " no", "No", "no\n", "none", "best ", " best", "Best", "best\n", "best 1", "bests",
            "bound ", " bound", "Bound", "bound\n", "bound 1", "kept ", " kept", "Kept", "kept\n", "kept 1", "keep",
            "back ", " back", "Back", "back\n", "back 1", "backs", "asked", "gone", "stop", "NoAsk", "NoWord", "TooMany",
            "none 0", "kept 10", "\n", "\t", "askmay", "ask may", "ask ask", "ask 1 may", "may may")
# A path of three ties; thing 1 bears one ask alone.
PATH = (4, ((0, 1, (1, 2), 3), (1, 2, (1, 3), 20), (2, 3, (3, 4), 4)), (2, 1, 2, 2), 2)


class DeskByWords:
    """A desk by the document's words: the asks made, the last one perhaps not answered."""

    def __init__(self, web):
        self.web, self.asks = web, []

    def waits(self):
        return bool(self.asks) and self.asks[-1][1] is None

    def answered(self):
        return self.asks[:-1] if self.waits() else self.asks

    def stand(self):
        stand = ((), ())
        for tie, truth in self.answered():
            stand = behind_by_words(self.web, stand, tie, truth)
        return stand

    def may(self):
        return [tie for tie in range(len(self.web[1])) if may_by_words(self.web, self.stand(), tie)]

    def ask(self, tie):
        if self.waits() or tie not in self.may():
            return "NoAsk"
        self.asks.append((tie, None))
        return "asked"

    def answer(self, truth):
        if not self.waits():
            return "NoAsk"
        tie = self.asks.pop()[0]
        self.asks.append((tie, truth))
        return f"kept {self.web[1][tie][3]}" if truth else "gone"

    def back(self):
        if not self.asks:
            return "NoAsk"
        self.asks.pop()
        return "back"

    def kept(self):
        ties = [tie for tie, truth in self.answered() if truth]
        return f"{' '.join(map(str, ties)) or 'none'} {sum(self.web[1][tie][3] for tie in ties)}"

    def bound(self):
        if len(self.web[1]) > 10:
            return "TooMany"
        things, ties, patience, asks = self.web
        (asked, taken), may = self.stand(), self.may()
        ties = tuple((one, other, chance if at in may else (0, 1), worth)
                     for at, (one, other, chance, worth) in enumerate(ties))
        left = tuple(0 if thing in taken else patience[thing] - asks_by_words(self.web, asked, thing)
                     for thing in range(things))
        return "{}/{}".format(*bound((things, ties, left, asks - len(asked)))[0])

    def say(self, line):
        """The answer; to "best" None, since several may be right."""
        asking = re.fullmatch("ask (0|[1-9][0-9]*)", line)
        if asking and int(asking[1]) < len(self.web[1]):
            return self.ask(int(asking[1]))
        return {"yes": lambda: self.answer(True), "no": lambda: self.answer(False), "back": self.back,
                "may": lambda: " ".join(map(str, self.may())) or "none", "best": lambda: None, "bound": self.bound,
                "kept": self.kept}.get(line, lambda: "NoWord")()

    def best_fits(self, told):
        """Whether that is what a table may tell at this stand."""
        if len(self.web[1]) > 7:
            return told == "TooMany"
        known = {}
        best = best_by_words(self.web, self.stand(), known)
        worth = f"{best.numerator}/{best.denominator}"
        if told == f"stop {worth}":
            return best == 0
        for tie in self.may():
            chance, kept = Fraction(*self.web[1][tie][2]), self.web[1][tie][3]
            yes, no = (best_by_words(self.web, behind_by_words(self.web, self.stand(), tie, truth), known)
                       for truth in (True, False))
            if told == f"ask {tie} {worth}" and chance * (kept + yes) + (1 - chance) * no == best:
                return True
        return False


class Lines(unittest.TestCase):
    def says(self, desk, *pairs):
        for line, told in pairs:
            self.assertTrue(same(desk.say(line), told), (line, told))

    def test_an_ordinary_run(self):
        desk = Desk(PATH)
        self.says(desk, ("may", "0 1 2"), ("kept", "none 0"), ("best", "ask 1 26/3"), ("bound", "28/3"),
                  ("ask 1", "asked"), ("no", "gone"), ("may", "2"), ("best", "ask 2 3/1"), ("bound", "3/1"),
                  ("ask 0", "NoAsk"), ("ask 2", "asked"), ("yes", "kept 4"), ("kept", "2 4"), ("may", "none"),
                  ("best", "stop 0/1"), ("bound", "0/1"), ("ask 0", "NoAsk"), ("back", "back"), ("kept", "none 0"),
                  ("may", "2"), ("back", "back"), ("may", "0 1 2"), ("back", "NoAsk"))

    def test_ahead_of_any_ask(self):
        for web in (PATH, WEB, EMPTY):
            self.says(Desk(web), ("yes", "NoAsk"), ("no", "NoAsk"), ("back", "NoAsk"), ("kept", "none 0"))
        self.says(Desk(EMPTY), ("may", "none"), ("best", "stop 0/1"), ("bound", "0/1"), ("ask 0", "NoWord"))
        self.says(Desk((3, (), (1,) * 3, 5)), ("may", "none"), ("best", "stop 0/1"), ("bound", "0/1"))
        self.says(Desk(put(PATH, 3, 0)), ("may", "none"), ("ask 0", "NoAsk"), ("best", "stop 0/1"), ("bound", "0/1"))
        self.says(Desk(put(PATH, 2, (0,) * 4)), ("may", "none"), ("ask 0", "NoAsk"), ("best", "stop 0/1"),
                  ("bound", "0/1"))

    def test_while_a_tie_waits(self):
        desk = Desk(PATH)
        ahead = [(line, desk.say(line)) for line in ("may", "best", "bound", "kept")]
        self.says(desk, ("ask 0", "asked"), *ahead)
        self.says(desk, ("ask 0", "NoAsk"), ("ask 1", "NoAsk"), ("ask 2", "NoAsk"), ("ask 3", "NoWord"), *ahead)
        self.says(desk, ("yes", "kept 3"), ("yes", "NoAsk"), ("no", "NoAsk"))
        ahead = [(line, desk.say(line)) for line in ("may", "best", "bound", "kept")]
        self.assertEqual(ahead, [("may", "2"), ("best", "ask 2 3/1"), ("bound", "3/1"), ("kept", "0 3")])
        self.says(desk, ("ask 2", "asked"), *ahead)
        self.says(desk, ("back", "back"), *ahead)
        self.says(desk, ("yes", "NoAsk"), ("no", "NoAsk"), ("ask 2", "asked"), ("no", "gone"), ("kept", "0 3"),
                  ("back", "back"), *ahead)

    def test_back(self):
        desk = Desk(PATH)
        self.says(desk, ("ask 0", "asked"), ("back", "back"), ("back", "NoAsk"), ("yes", "NoAsk"), ("ask 0", "asked"),
                  ("no", "gone"), ("back", "back"), ("yes", "NoAsk"), ("back", "NoAsk"), ("ask 0", "asked"),
                  ("yes", "kept 3"), ("ask 2", "asked"), ("yes", "kept 4"), ("kept", "0 2 7"), ("back", "back"),
                  ("kept", "0 3"), ("back", "back"), ("kept", "none 0"), ("back", "NoAsk"), ("may", "0 1 2"))

    def test_kept_in_the_order_of_the_asks(self):
        web = (6, ties_between([(0, 1), (2, 3), (4, 5)], [0, 1000, 7]), (1,) * 6, 3)
        self.says(Desk(web), ("ask 2", "asked"), ("yes", "kept 7"), ("ask 0", "asked"), ("yes", "kept 0"),
                  ("kept", "2 0 7"), ("ask 1", "asked"), ("kept", "2 0 7"), ("yes", "kept 1000"), ("kept", "2 0 1 1007"))
        # Kept, but of no worth.
        self.says(Desk(web), ("ask 0", "asked"), ("yes", "kept 0"), ("kept", "0 0"))

    def test_whatever_the_chance(self):
        web = (4, ((0, 1, (0, 1), 9), (2, 3, (1, 1), 5), (1, 2, (1, 2), 8)), (2,) * 4, 2)
        self.says(Desk(web), ("best", "ask 2 13/2"), ("ask 0", "asked"), ("yes", "kept 9"), ("best", "ask 1 5/1"),
                  ("ask 1", "asked"), ("no", "gone"), ("kept", "0 9"), ("may", "none"))
        desk = Desk(web)
        self.says(desk, ("ask 1", "asked"), ("no", "gone"), ("best", "ask 2 4/1"), ("bound", "4/1"), ("may", "0 2"))

    def test_patience_and_asks_used_up(self):
        web = (3, ties_between([(0, 1), (0, 1), (0, 2), (1, 2)], [1, 2, 3, 4]), (2, 3, 3), 3)
        desk = Desk(web)
        self.says(desk, ("ask 0", "asked"), ("no", "gone"), ("ask 0", "NoAsk"), ("may", "1 2 3"), ("ask 1", "asked"),
                  ("no", "gone"), ("may", "3"), ("ask 2", "NoAsk"), ("bound", "2/1"), ("ask 3", "asked"), ("no", "gone"),
                  ("may", "none"), ("ask 2", "NoAsk"), ("best", "stop 0/1"), ("bound", "0/1"))
        desk = Desk(put(web, 3, 2))
        self.says(desk, ("ask 3", "asked"), ("no", "gone"), ("may", "0 1 2"), ("ask 0", "asked"), ("no", "gone"),
                  ("may", "none"), ("ask 1", "NoAsk"), ("ask 2", "NoAsk"), ("bound", "0/1"))

    def test_bound_of_what_is_left(self):
        # Patience that is left counts, and a thing that is taken bears none.
        ties = ties_between([(0, 1), (0, 2), (0, 3), (1, 2)], [4, 6, 8, 100], (1, 2))
        desk = Desk((4, ties, (2, 2, 2, 2), 9))
        self.says(desk, ("bound", "57/1"), ("ask 3", "asked"), ("no", "gone"), ("bound", "7/1"), ("ask 0", "asked"),
                  ("no", "gone"), ("bound", "4/1"), ("back", "back"), ("back", "back"), ("ask 3", "asked"),
                  ("yes", "kept 100"), ("bound", "4/1"), ("may", "2"), ("ask 2", "asked"), ("yes", "kept 8"),
                  ("bound", "0/1"))
        # One ask left.
        desk = Desk((4, ties, (3, 2, 2, 2), 2))
        self.says(desk, ("ask 0", "asked"), ("no", "gone"), ("bound", "50/1"), ("best", "ask 3 50/1"))

    def test_no_words(self):
        for web in (PATH, WEB, WIDE):
            desk, waiting = Desk(web), Desk(web)
            self.says(waiting, ("ask 0", "asked"))
            for line in NO_LINES:
                self.says(desk, (line, "NoWord"))
                self.says(waiting, (line, "NoWord"))
            for tie in (len(web[1]), len(web[1]) + 1, 100, 1000, 10000, 10 ** 59):
                self.says(desk, (f"ask {tie}", "NoWord"))
                self.says(waiting, (f"ask {tie}", "NoWord"))
            # Nothing has come of all that.
            self.says(desk, ("back", "NoAsk"), ("may", " ".join(map(str, range(len(web[1]))))), ("ask 0", "asked"))
            self.says(waiting, ("yes", f"kept {web[1][0][3]}"), ("back", "back"), ("back", "NoAsk"))
        last = len(WIDE[1]) - 1
        self.says(Desk(WIDE), (f"ask {last}", "asked"), ("no", "gone"), (f"ask {last}", "NoAsk"))

    def test_things_that_are_no_lines(self):
        desk = Desk(PATH)
        for thing in ANYTHING:
            self.says(desk, (thing, "NoWord"))
        self.says(desk, ("may", "0 1 2"))

    def test_too_many(self):
        for web in (WIDE, GREAT):
            for many in (1, 6, 7, 8, 9, 10, 11, 16):
                desk = Desk(with_ties(web, many))
                for lines in ((), ("ask 0",), ("yes",), ("back",)):
                    for line in lines:
                        self.assertNotIn(desk.say(line), ("NoAsk", "NoWord"))
                    self.assertEqual(desk.say("best") == "TooMany", many > 7)
                    self.assertEqual(desk.say("bound") == "TooMany", many > 10)
                    self.assertNotEqual(desk.say("may"), "TooMany")
                    self.assertNotEqual(desk.say("kept"), "TooMany")
        seven = with_ties(WIDE, 7)
        worth = best_worth(seven)
        self.assertTrue(Desk(seven).say("best").endswith(f" {worth[0]}/{worth[1]}"))

    def test_the_stand_counts_not_the_way_to_it(self):
        one, other = Desk(WEB), Desk(WEB)
        self.says(one, ("ask 1", "asked"), ("no", "gone"), ("ask 0", "asked"), ("no", "gone"))
        self.says(other, ("ask 0", "asked"), ("no", "gone"), ("ask 1", "asked"), ("no", "gone"))
        for line in ("may", "best", "bound", "kept"):
            self.assertEqual(one.say(line), other.say(line))


class ByWords(unittest.TestCase):
    def look_over_line(self, desks, model, line):
        told = [desk.say(line) for desk in desks]
        self.assertTrue(all(same(answer, told[0]) and type(answer) is str for answer in told))
        right = model.say(line)
        if line == "best":
            self.assertTrue(model.best_fits(told[0]), (model.web, model.asks, told[0]))
        else:
            self.assertTrue(same(told[0], right), (model.web, model.asks, line, told[0], right))

    def look_over_questions(self, desks, model):
        for line in ("may", "best", "bound", "kept"):
            self.look_over_line(desks, model, line)

    def draw_line(self, rng, web):
        if rng.random() < 0.45:
            return f"ask {rng.randrange(len(web[1]) + 1)}"
        return rng.choice(NO_LINES if rng.random() < 0.1 else LINES + ("yes", "no") * 3)

    def test_lines_drawn(self):
        rng = random.Random(561)
        webs = [PATH, WEB, EMPTY] + random_webs(561, 40, 6, 6) + random_webs(562, 6, 12, 16) + random_webs(563, 6, 9, 8)
        for web in webs:
            desks, model = [Desk(web), Desk(web)], DeskByWords(web)
            for at in range(60):
                self.look_over_line(desks, model, self.draw_line(rng, web))
            self.look_over_questions(desks, model)
            # All taken back, it is as at first.
            while model.asks:
                self.look_over_line(desks, model, "back")
            self.look_over_line(desks, model, "back")
            self.look_over_questions(desks, model)
            fresh = Desk(web)
            for line in LINES:
                self.assertTrue(same(desks[0].say(line), fresh.say(line)))

    def test_two_desks_by_turns(self):
        rng = random.Random(564)
        for web in [PATH, WEB] + random_webs(564, 15, 6, 6):
            desks = [(Desk(web), DeskByWords(web)) for at in range(2)]
            for at in range(80):
                desk, model = rng.choice(desks)
                self.look_over_line([desk], model, self.draw_line(rng, web))

    def test_questions_at_all_stands(self):
        for web in [PATH, WEB] + random_webs(565, 6, 5, 4):
            desks, model = [Desk(web)], DeskByWords(web)
            self.go_on(desks, model)

    def go_on(self, desks, model):
        self.look_over_questions(desks, model)
        for tie in model.may():
            for word in ("yes", "no"):
                self.look_over_line(desks, model, f"ask {tie}")
                self.look_over_questions(desks, model)
                self.look_over_line(desks, model, word)
                self.go_on(desks, model)
                self.look_over_line(desks, model, "back")


if __name__ == "__main__":
    unittest.main()
