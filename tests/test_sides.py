import itertools
import random
import unittest

from askedpairs.sidepaper import ring_holds, sides_hold
from askedpairs.sides import sides
from tests.helper import (CHANCES, EMPTY, GREAT, WEB, WIDE, has_sides, look_over, put, random_webs, ring_by_words,
                          same, sides_by_words, ties_between, two_sided_webs)


def web_of(things, pairs):
    return (things, ties_between([tuple(sorted(pair)) for pair in pairs]), (1,) * things, 9)


def circle(things):
    """The pairs of a ring of these things, in their order."""
    return list(zip(things, things[1:] + things[:1]))


PATH = web_of(4, [(0, 1), (1, 2), (2, 3)])
SQUARE = web_of(4, circle([0, 1, 2, 3]))
THREE = web_of(3, circle([0, 1, 2]))
FIVE = web_of(5, circle([0, 3, 1, 4, 2]))
# Things 0, 1 and 2 lead to a ring of 3, 4 and 5; from 4 a way leads on.
LED = web_of(7, [(0, 1), (1, 2), (2, 3), (3, 4), (4, 5), (3, 5), (4, 6)])
# Of four parts (one a thing alone) the last one alone has a ring.
PARTS = web_of(12, [(0, 1), (2, 3), (3, 4), (4, 5), (2, 5), (7, 8), (8, 9), (9, 10), (10, 11), (7, 11)])
TWICE = web_of(2, [(0, 1), (0, 1)])


class SidesHold(unittest.TestCase):
    def test_no_ties(self):
        self.assertIs(sides_hold(EMPTY, ()), True)
        for row in itertools.product((0, 1), repeat=3):
            self.assertIs(sides_hold(web_of(3, []), row), True)
        for row in ((), (0, 1), (0, 1, 0, 1), (0, 2, 0), (-1, 0, 0)):
            self.assertIs(sides_hold(web_of(3, []), row), False)
        for thing in ((0,), (1,), [], None, {}, ""):
            self.assertIs(sides_hold(EMPTY, thing), False)

    def test_by_examples(self):
        for row in ((0, 1, 0, 1), (1, 0, 1, 0)):
            self.assertIs(sides_hold(PATH, row), True)
            self.assertIs(sides_hold(SQUARE, row), True)
        # Both things of a tie on one side, of the first, a middle or the last tie alone.
        for row in ((1, 1, 0, 1), (0, 1, 1, 0), (0, 1, 0, 0), (0, 0, 0, 0), (1, 1, 1, 1)):
            self.assertIs(sides_hold(PATH, row), False)
        self.assertIs(sides_hold(TWICE, (0, 1)), True)
        self.assertIs(sides_hold(TWICE, (1, 0)), True)
        self.assertIs(sides_hold(TWICE, (1, 1)), False)

    def test_wrong_rows(self):
        for thing in ((0, 1, 0), (0, 1, 0, 1, 0), (0, 2, 0, 1), (0, 1, -1, 1), (2, 1, 2, 1), (0, -1, 0, -1), (),
                      (0, 1, 0, 2), [0, 1, 0, 1], (False, True, False, True), (0, 1, 0, True), (False, 1, 0, 1),
                      (0, None, 0, 1), (0, "1", 0, 1), "0101", (0, (1,), 0, 1), (0, [1], 0, 1), (0, {}, 0, 1), None,
                      True, 0, {0: 0, 1: 1, 2: 0, 3: 1}, ((0, 1, 0, 1),), ("sides", (0, 1, 0, 1)), (0, 1, (0, 1))):
            self.assertIs(sides_hold(PATH, thing), False, thing)

    def test_all_rows(self):
        for web in [PATH, SQUARE, THREE, FIVE, TWICE, WEB] + random_webs(321, 30, 6, 5) + two_sided_webs(322, 30, 6, 9):
            for row in itertools.product((0, 1, 2), repeat=web[0]):
                self.assertIs(sides_hold(web, row), sides_by_words(web, row))

    def test_anything(self):
        for web, good in ((EMPTY, [()]), (PATH, [(0, 1, 0, 1), (1, 0, 1, 0)]), (TWICE, [(0, 1)]), (THREE, []),
                          (WIDE, [(0, 1) * 6, (1, 0) * 5 + (0, 1)]), (GREAT, [(1,) * 11 + (0,)])):
            look_over(self, lambda thing: sides_hold(web, thing), good, lambda thing: sides_by_words(web, thing))


class RingHolds(unittest.TestCase):
    def test_rings_of_three_five_and_more(self):
        for size in (3, 5, 7, 9, 11):
            things = list(range(size))
            random.Random(size).shuffle(things)
            web = web_of(12, circle(things))
            for at in range(size):
                ring = tuple(things[at:] + things[:at])
                self.assertIs(ring_holds(web, ring), True)
                self.assertIs(ring_holds(web, ring[::-1]), True)
                # One thing left out, twice, or another one in its place.
                self.assertIs(ring_holds(web, ring[1:]), False)
                self.assertIs(ring_holds(web, ring[1:-1]), False)
                self.assertIs(ring_holds(web, ring + ring[:1]), False)
                self.assertIs(ring_holds(web, ring + ring[:2]), False)
                self.assertIs(ring_holds(web, put(ring, 1, 11)), False)
            self.assertIs(ring_holds(web, tuple(things) * 3), False)

    def test_a_tie_is_missing(self):
        # Between two that follow one another, or from the last to the first alone.
        for at in range(5):
            pairs = circle([0, 1, 2, 3, 4])
            web = web_of(5, pairs[:at] + pairs[at + 1:])
            self.assertIs(ring_holds(web, (0, 1, 2, 3, 4)), False)
        self.assertIs(ring_holds(PATH, (0, 1, 2)), False)
        self.assertIs(ring_holds(PATH, (1, 2, 0)), False)

    def test_even_and_short(self):
        self.assertIs(ring_holds(SQUARE, (0, 1, 2, 3)), False)
        self.assertIs(ring_holds(web_of(6, circle([0, 1, 2, 3, 4, 5])), (0, 1, 2, 3, 4, 5)), False)
        # Two things with two ties, one thing, none.
        for thing in ((0, 1), (1, 0), (0,), (1,), (), (0, 1, 0), (0, 1, 1), (0, 0, 0)):
            self.assertIs(ring_holds(TWICE, thing), False)
        self.assertIs(ring_holds(EMPTY, ()), False)

    def test_unlike_things(self):
        # By the ties alone one could go round THREE for ever.
        self.assertIs(ring_holds(THREE, (0, 1, 2, 0, 1, 2, 0, 1, 2)), False)
        self.assertIs(ring_holds(LED, (2, 3, 4, 5, 3)), False)
        self.assertIs(ring_holds(LED, (2, 3, 2)), False)

    def test_wrong_rings(self):
        for thing in ((0, 1, 3), (0, 1, -1), (3, 0, 1), (2, 1, -3), [0, 1, 2], (False, True, 2), (0, True, 2),
                      (0, 1, None), (0, 1, "2"), (0, 1, (2,)), (0, 1, [2]), (0, 1, {}), None, True, 3, "012",
                      {0: 0, 1: 1, 2: 2}, ((0, 1, 2),), ("ring", (0, 1, 2)), ((0, 1), (1, 2), (0, 2))):
            self.assertIs(ring_holds(THREE, thing), False, thing)

    def test_all_rows(self):
        for web in [THREE, FIVE, SQUARE, TWICE, WEB] + random_webs(323, 25, 5, 7):
            for size in range(6):
                for row in itertools.product(range(-1, web[0] + 1), repeat=size) if size < 5 else \
                        itertools.permutations(range(web[0]), size):
                    self.assertIs(ring_holds(web, row), ring_by_words(web, row))

    def test_anything(self):
        for web, good in ((EMPTY, []), (THREE, [(0, 1, 2), (2, 1, 0)]), (FIVE, [(0, 3, 1, 4, 2)]), (LED, [(3, 4, 5)]),
                          (PARTS, [(11, 7, 8, 9, 10)]), (PATH, []), (WEB, [(0, 1, 2)])):
            look_over(self, lambda thing: ring_holds(web, thing), good, lambda thing: ring_by_words(web, thing))


class Sides(unittest.TestCase):
    def look_over_sides(self, web):
        told = sides(web)
        self.assertEqual((type(told), len(told)), (tuple, 2))
        word, row = told
        self.assertIn(word, ("sides", "ring"))
        self.assertIs(sides_by_words(web, row), word == "sides", (web, told))
        self.assertIs(sides_hold(web, row), word == "sides")
        self.assertIs(ring_by_words(web, row), word == "ring", (web, told))
        self.assertIs(ring_holds(web, row), word == "ring")
        self.assertTrue(same(told, sides(web)))
        return word

    def test_by_examples(self):
        self.assertTrue(same(sides(EMPTY), ("sides", ())))
        for web in (PATH, SQUARE, TWICE, WIDE, GREAT, web_of(5, []), web_of(1, [])):
            self.assertEqual(self.look_over_sides(web), "sides")
        for web in (THREE, FIVE, WEB):
            self.assertEqual(self.look_over_sides(web), "ring")

    def test_things_that_lead_to_the_ring(self):
        self.assertEqual(self.look_over_sides(LED), "ring")
        self.assertEqual(sorted(sides(LED)[1]), [3, 4, 5])
        # By whatever names, and in whatever order of the ties.
        rng = random.Random(324)
        for at in range(60):
            names = rng.sample(range(7), 7)
            pairs = [(names[one], names[other]) for one, other, chance, worth in LED[1]]
            rng.shuffle(pairs)
            web = web_of(7, pairs)
            self.assertEqual(self.look_over_sides(web), "ring")
            self.assertEqual(sorted(sides(web)[1]), sorted(names[3:6]))

    def test_a_ring_in_the_last_part_alone(self):
        self.assertEqual(self.look_over_sides(PARTS), "ring")
        self.assertEqual(sorted(sides(PARTS)[1]), [7, 8, 9, 10, 11])
        self.assertEqual(self.look_over_sides(put(PARTS, 1, PARTS[1][:-1])), "sides")

    def test_rings_of_all_sizes(self):
        for size in range(3, 13):
            things = list(range(12))
            random.Random(size).shuffle(things)
            pairs = circle(things[:size]) + [(things[at], things[at + 1]) for at in range(size - 1, 11)]
            web = web_of(12, pairs)
            self.assertEqual(self.look_over_sides(web), "ring" if size % 2 else "sides")
            if size % 2:
                self.assertEqual(sorted(sides(web)[1]), sorted(things[:size]))

    def test_chances_and_worths_take_no_part(self):
        for chance in CHANCES:
            for worth in (0, 1000):
                for web in (THREE, PATH):
                    ties = tuple(tie[:2] + (chance, worth) for tie in web[1])
                    self.assertTrue(same(sides((web[0], ties, (0,) * web[0], 0)), sides(web)))

    def test_webs_of_up_to_twelve_things_and_sixteen_ties(self):
        told = {"sides": 0, "ring": 0}
        for web in random_webs(325, 300, 12, 16) + random_webs(326, 300, 7, 8):
            told[self.look_over_sides(web)] += 1
        self.assertGreater(min(told.values()), 100)
        for web in two_sided_webs(327, 200):
            self.assertEqual(self.look_over_sides(web), "sides")

    def test_just_one_of_both_can_be(self):
        for web in random_webs(328, 60, 5, 7):
            self.assertEqual(has_sides(web), sides(web)[0] == "sides")
            rings = any(ring_by_words(web, row) for size in (3, 5) for row in
                        itertools.permutations(range(web[0]), size))
            self.assertEqual(rings, sides(web)[0] == "ring")


if __name__ == "__main__":
    unittest.main()
