import unittest

from askedpairs.webs import is_web
from tests.helper import EMPTY, GREAT, WEB, look_over, random_webs, web_by_words


def web_of(tie=(0, 1, (1, 2), 5), patience=(1, 1, 1), asks=3):
    return (3, (tie,), patience, asks)


class Webs(unittest.TestCase):
    def yes(self, thing):
        self.assertIs(is_web(thing), True, thing)

    def no(self, thing):
        self.assertIs(is_web(thing), False, thing)

    def test_ordinary_webs(self):
        for web in (WEB, EMPTY, GREAT, web_of()):
            self.yes(web)
        for web in random_webs(5, 100, 12, 16, 20):
            self.yes(web)

    def test_things(self):
        self.yes((0, (), (), 40))
        self.yes((1, (), (20,), 0))
        self.yes((12, (), (0,) * 12, 0))
        self.no((13, (), (0,) * 13, 0))
        self.no((-1, (), (), 0))
        self.no((True, (), (20,), 0))
        self.no((False, (), (), 0))

    def test_how_many_ties(self):
        self.yes((2, ((0, 1, (1, 2), 5),) * 16, (20, 20), 40))
        self.no((2, ((0, 1, (1, 2), 5),) * 17, (20, 20), 40))

    def test_things_of_a_tie(self):
        self.yes(web_of(tie=(1, 2, (1, 2), 5)))
        self.yes(web_of(tie=(0, 2, (1, 2), 5)))
        for one, other in ((1, 0), (1, 1), (0, 3), (2, 3), (3, 4), (-1, 0), (-2, -1), (-1, 2), (False, 1), (0, True),
                           (None, 1), (0, None), ("0", 1), (0, "1"), ((0,), 1), (0, [1]), ({}, 1)):
            self.no(web_of(tie=(one, other, (1, 2), 5)))

    def test_parts_of_a_tie(self):
        for tie in ((0, 1, (1, 2)), (0, 1, (1, 2), 5, 0), (0, 1), (), [0, 1, (1, 2), 5], None, "tie", 5, {}, True):
            self.no(web_of(tie=tie))

    def test_chances(self):
        for chance in ((0, 1), (1, 1), (1, 100), (99, 100), (1, 2), (96, 97)):
            self.yes(web_of(tie=(0, 1, chance, 5)))
        for chance in ((1, 101), (100, 101), (2, 4), (0, 2), (2, 2), (50, 100), (3, 2), (101, 100), (2, 1), (-1, 2),
                       (1, -2), (-1, -2), (1, 0), (0, 0), (0, -1), (True, 1), (1, True), (False, 1), (0, True),
                       (True, 2), (1,), (1, 2, 3), (), [1, 2], 0, 1, None, "1/2", {1: 2}, ("1", 2), (1, None)):
            self.no(web_of(tie=(0, 1, chance, 5)))

    def test_worths(self):
        for worth in (0, 1, 1000):
            self.yes(web_of(tie=(0, 1, (1, 2), worth)))
        for worth in (-1, 1001, True, False, None, "5", (5,), [], {}, (1, 2)):
            self.no(web_of(tie=(0, 1, (1, 2), worth)))

    def test_patience(self):
        self.yes(web_of(patience=(0, 20, 7)))
        for patience in ((0, 21, 7), (0, -1, 7), (0, 0), (0, 0, 0, 0), (), [0, 0, 0], (True, 0, 0), (0, None, 0),
                         ("", "", ""), "000", None, {0: 1, 1: 1, 2: 1}, 3):
            self.no(web_of(patience=patience))

    def test_asks(self):
        for asks in (0, 1, 40):
            self.yes(web_of(asks=asks))
        for asks in (-1, 41, True, False, None, "3", (3,), [3], {}):
            self.no(web_of(asks=asks))

    def test_rows_are_tuples(self):
        things, ties, patience, asks = WEB
        self.no([things, ties, patience, asks])
        self.no((things, list(ties), patience, asks))
        self.no((things, ties, list(patience), asks))
        self.no((things, ties, patience))
        self.no((things, ties, patience, asks, 0))

    def test_anything(self):
        look_over(self, is_web, [EMPTY, web_of(), WEB] + random_webs(55, 5), web_by_words)


if __name__ == "__main__":
    unittest.main()
