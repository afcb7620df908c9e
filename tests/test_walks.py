import copy
import itertools
import unittest

from spaces import GENERAL, LONG, SPACES, THROUGH_ONE, land_signs
from wallspace.errors import NoLand
from wallspace.lands import lands
from wallspace.walks import between, walk

TRIANGLE = [(1, 0, 0), (0, 1, 0), (1, 1, 1)]
NARROW = [(1, 0, 0), (0, 1, 0), (LONG, LONG, 1), (LONG, LONG, 2), (1, -1, 0)]
ALL = SPACES + [(2, TRIANGLE), (2, NARROW)]


def unlike(one, other):
    return [place for place, (sign, against) in enumerate(zip(one, other, strict=True)) if sign != against]


class Between(unittest.TestCase):
    def test_by_hand(self):
        self.assertEqual(between(2, TRIANGLE, (1, 1, -1), (1, 1, 1)), [2])
        self.assertEqual(between(2, TRIANGLE, (-1, 1, 1), (1, -1, 1)), [0, 1])
        self.assertEqual(between(2, TRIANGLE, (-1, -1, -1), (1, 1, 1)), [0, 1, 2])
        self.assertEqual(between(1, [(1, 4), (1, 0), (1, 2)], (-1, -1, -1), (-1, 1, 1)), [1, 2])

    def test_a_land_and_itself(self):
        self.assertEqual(between(2, TRIANGLE, (1, 1, -1), (1, 1, -1)), [])
        self.assertEqual(between(0, [], (), ()), [])
        self.assertEqual(between(3, [], (), ()), [])

    def test_all_pairs(self):
        for ways, walls in ALL:
            for one, other in itertools.product(land_signs(walls), repeat=2):
                found = between(ways, walls, one, other)
                self.assertIs(type(found), list)
                self.assertEqual(found, unlike(one, other))

    def test_what_is_told_is_the_askers_own(self):
        first = between(2, TRIANGLE, (-1, -1, -1), (1, 1, 1))
        first.clear()
        self.assertEqual(between(2, TRIANGLE, (-1, -1, -1), (1, 1, 1)), [0, 1, 2])


class Walk(unittest.TestCase):
    def check(self, ways, walls, one, other, held):
        found = walk(ways, walls, one, other)
        self.assertIs(type(found), list)
        self.assertEqual((found[0], found[-1]), (one, other))
        crossed = []
        for signs, after in zip(found, found[1:]):
            places = unlike(signs, after)
            self.assertEqual(len(places), 1)
            crossed += places
        self.assertEqual(sorted(crossed), unlike(one, other))
        for signs in found:
            self.assertIs(type(signs), tuple)
            self.assertEqual([type(sign) for sign in signs], [int] * len(walls))
            self.assertIn(signs, held)

    def test_from_a_land_to_itself(self):
        self.assertEqual(walk(2, TRIANGLE, (1, 1, -1), (1, 1, -1)), [(1, 1, -1)])
        self.assertEqual(walk(0, [], (), ()), [()])
        self.assertEqual(walk(4, [], (), ()), [()])

    def test_where_there_is_one_walk_alone(self):
        walls = [(1, 4), (1, 0), (1, 2)]
        along = [(-1, -1, -1), (-1, 1, -1), (-1, 1, 1), (1, 1, 1)]
        for one, other in itertools.combinations(range(4), 2):
            self.assertEqual(walk(1, walls, along[one], along[other]), along[one:other + 1])
            self.assertEqual(walk(1, walls, along[other], along[one]), along[one:other + 1][::-1])

    def test_round_a_point(self):
        # Not every order of the walls between is a walk: (-1, -1, 1) and (1, 1, -1) are no lands.
        walls = [(1, 0, 0), (0, 1, 0), (1, 1, 0)]
        self.assertIn(walk(2, walls, (-1, -1, -1), (1, 1, 1)), [
            [(-1, -1, -1), (-1, 1, -1), (-1, 1, 1), (1, 1, 1)],
            [(-1, -1, -1), (1, -1, -1), (1, -1, 1), (1, 1, 1)],
        ])

    def test_all_pairs(self):
        for ways, walls in ALL:
            held = land_signs(walls)
            for one, other in itertools.product(held, repeat=2):
                self.check(ways, walls, one, other, held)

    def test_twelve_walls(self):
        for walls in (GENERAL, THROUGH_ONE):
            held = [signs for signs, point in lands(4, walls)]
            self.assertEqual(len(unlike(held[0], tuple(-sign for sign in held[0]))), 12)
            for other in held[::37] + [held[-1]]:
                self.check(4, walls, held[0], other, held)
                self.check(4, walls, other, held[-2], held)

    def test_what_is_told_is_the_askers_own(self):
        first = walk(2, TRIANGLE, (-1, -1, -1), (1, 1, 1))
        kept = list(first)
        first.reverse()
        first.append("mine")
        self.assertEqual(walk(2, TRIANGLE, (-1, -1, -1), (1, 1, 1)), kept)


class Refusals(unittest.TestCase):
    def assert_refused(self, ways, walls, one, other):
        for deed in (between, walk):
            with self.assertRaises(NoLand):
                deed(ways, walls, one, other)

    def test_no_lands_signs(self):
        for ways, walls in ALL:
            held = land_signs(walls)
            for signs in itertools.product((-1, 1), repeat=len(walls)):
                if signs not in held:
                    self.assert_refused(ways, walls, signs, held[0])
                    self.assert_refused(ways, walls, held[-1], signs)
                    self.assert_refused(ways, walls, signs, signs)

    def test_another_length(self):
        good = (1, 1, -1)
        for bad in ((), (1, 1), (1, 1, -1, 1)):
            self.assert_refused(2, TRIANGLE, bad, good)
            self.assert_refused(2, TRIANGLE, good, bad)
            self.assert_refused(2, TRIANGLE, bad, bad)
        self.assert_refused(0, [], (1,), ())
        self.assert_refused(0, [], (), (-1,))

    def test_numbers_that_are_no_signs_of_a_land(self):
        good = (1, 1, -1)
        for bad in ((0, 1, -1), (1, 1, 0), (2, 1, -1), (1, 1, -LONG)):
            self.assert_refused(2, TRIANGLE, bad, good)
            self.assert_refused(2, TRIANGLE, good, bad)

    def test_truths_are_no_signs(self):
        self.assert_refused(1, [(1, 0)], (True,), (1,))
        self.assert_refused(1, [(1, 0)], (1,), (True,))


class WhatIsHandedIn(unittest.TestCase):
    def test_stays(self):
        for ways, walls in ALL:
            kept = copy.deepcopy(walls)
            held = land_signs(walls)
            for deed in (between, walk):
                deed(ways, walls, held[0], held[-1])
                self.assertEqual(walls, kept)


if __name__ == "__main__":
    unittest.main()
