import copy
import itertools
import math
import unittest
from fractions import Fraction

from spaces import LONG, SPACES, TWELVE, fill_space, goes_on, land_signs
from wallspace.errors import NoLand
from wallspace.lands import lands, way_out
from wallspace.polynomials import by_lots, worth
from wallspace.walls import looked, side

# More walls, some lands of which go on in no way.
NARROW = [
    (1, [(1, 0), (LONG, 1)]),
    (2, [(1, 0, 0), (0, 1, 0), (LONG, LONG, 1)]),
    (2, [(1, 0, 0), (LONG, 1, 0), (LONG, -1, 1)]),
    (3, [(1, 0, 0, LONG), (0, 1, 0, LONG), (0, 0, 1, LONG), (1, 1, 1, 3 * LONG + 1)]),
]
CLOSED = [
    (1, [(1, 5), (1, -5), (2, 1)]),
    (2, [(1, 0, 0), (0, 1, 0), (1, 1, 1)]),
    (2, [(1, 0, -1), (1, 0, 1), (0, 1, -1), (0, 1, 1), (1, 1, 0)]),
    (3, [(1, 0, 0, 0), (0, 1, 0, 0), (0, 0, 1, 0), (1, 1, 1, 1), (1, 1, 1, 2)]),
    (3, [(1, 0, 0, 0), (1, 0, 0, 1), (0, 1, 0, 0), (0, 1, 0, 1), (0, 0, 1, 0), (0, 0, 1, 1)]),
    (3, [(0, 0, 1, 0), (0, 1, 0, 0), (0, 1, 0, 2), (0, 2, 3, 4)]),
    (4, [(1, 0, 0, 0, 0), (0, 1, 0, 0, 0), (0, 0, 1, 0, 0), (0, 0, 0, 1, 0), (1, 1, 1, 1, 1), (1, -1, 2, 3, 2)]),
]
# Walls that pass a land by in its corner.
BY_THE_CORNER = [
    (2, [(1, -1, 0), (2, 1, 0), (1, 0, 0)]),
    (2, [(2, 3, 0), (2, -1, 0), (1, 0, 1), (1, 0, 0)]),
    (3, [(0, 1, 1, 0), (1, 1, 1, 0), (0, 1, -1, 0), (0, 0, 1, 0)]),
]
ALL = SPACES + NARROW + CLOSED + BY_THE_CORNER


def signs_of(ways, walls):
    return [signs for signs, point in lands(ways, walls)]


def whole_point(point):
    return [Fraction(top, bottom) for top, bottom in point]


class Lands(unittest.TestCase):
    def test_no_ways(self):
        self.assertEqual(lands(0, []), [((), ())])

    def test_without_walls_there_is_one_land(self):
        for ways in range(5):
            found = lands(ways, [])
            self.assertEqual(len(found), 1)
            self.assertEqual(found[0][0], ())
            self.assertEqual(len(found[0][1]), ways)

    def test_one_wall(self):
        for one in ((1, 0), (2, 3), (1, -2, 5), (0, 0, 1, 4), (1, 2, 3, 4, 5)):
            self.assertEqual(signs_of(len(one) - 1, [one]), [(-1,), (1,)])

    def test_side_by_side(self):
        wanted = [(-1, -1, -1), (-1, 1, -1), (-1, 1, 1), (1, 1, 1)]
        self.assertEqual(signs_of(2, [(1, 1, 4), (1, 1, 0), (1, 1, 2)]), wanted)
        self.assertEqual(signs_of(1, [(1, 4), (1, 0), (1, 2)]), wanted)

    def test_in_general_places(self):
        wanted = [(-1, -1, -1), (-1, 1, -1), (-1, 1, 1), (1, -1, -1), (1, -1, 1), (1, 1, -1), (1, 1, 1)]
        self.assertEqual(signs_of(2, [(1, 0, 0), (0, 1, 0), (1, 1, 1)]), wanted)

    def test_through_one_point(self):
        wanted = [(-1, -1, -1), (-1, 1, -1), (-1, 1, 1), (1, -1, -1), (1, -1, 1), (1, 1, 1)]
        self.assertEqual(signs_of(2, [(1, 0, 0), (0, 1, 0), (1, 1, 0)]), wanted)

    def test_all_signs_of_walls_across_one_another(self):
        for ways in range(1, 5):
            walls = [tuple(int(place == way) for place in range(ways)) + (way,) for way in range(ways)]
            self.assertEqual(signs_of(ways, walls), list(itertools.product((-1, 1), repeat=ways)))

    def test_none_twice_and_none_missing(self):
        for ways, walls in ALL:
            looked(ways, walls)
            self.assertEqual(signs_of(ways, walls), land_signs(walls), (ways, walls))

    def test_twelve_walls(self):
        for (ways, walls), count in zip(TWELVE, (794, 192)):
            found = signs_of(ways, walls)
            self.assertEqual(len(found), count)
            self.assertEqual(found, sorted(set(found)))

    def test_as_many_as_the_polynomial_is_worth_at_minus_1(self):
        for ways, walls in ALL + TWELVE:
            self.assertEqual(len(lands(ways, walls)), abs(worth(by_lots(ways, walls), -1)))

    def test_each_point_lies_in_its_land(self):
        for ways, walls in ALL + TWELVE:
            for signs, point in lands(ways, walls):
                numbers = whole_point(point)
                for one, sign in zip(walls, signs, strict=True):
                    total = sum(number * along for number, along in zip(one[:-1], numbers, strict=True))
                    self.assertGreater(sign * (total - one[-1]), 0)
                    self.assertEqual(side(one, point), sign)

    def test_kinds(self):
        for ways, walls in ALL + TWELVE:
            found = lands(ways, walls)
            self.assertIs(type(found), list)
            for land in found:
                self.assertEqual([type(value) for value in land], [tuple, tuple])
                self.assertIs(type(land), tuple)
                self.assertEqual([type(sign) for sign in land[0]], [int] * len(walls))
                self.assertEqual(len(land[1]), ways)
                for value in land[1]:
                    self.assert_fraction(value)

    def assert_fraction(self, value):
        self.assertIs(type(value), tuple)
        self.assertEqual([type(number) for number in value], [int, int])
        self.assertGreater(value[1], 0)
        self.assertEqual(math.gcd(*value), 1)

    def test_what_is_handed_in_stays(self):
        for ways, walls in ALL:
            kept = copy.deepcopy(walls)
            lands(ways, walls)
            self.assertEqual(walls, kept)

    def test_what_is_told_is_the_askers_own(self):
        for ways, walls in ALL:
            first = lands(ways, walls)
            kept = list(first)
            first.reverse()
            first.append("mine")
            self.assertEqual(lands(ways, walls), kept)


class WayOut(unittest.TestCase):
    def assert_way(self, ways, walls, signs):
        way = way_out(ways, walls, signs)
        self.assertIs(type(way), tuple)
        self.assertEqual([type(number) for number in way], [int] * ways)
        self.assertTrue(any(way))
        for one, sign in zip(walls, signs, strict=True):
            total = sum(number * step for number, step in zip(one[:-1], way, strict=True))
            self.assertGreaterEqual(sign * total, 0)

    def test_no_ways(self):
        self.assertIsNone(way_out(0, [], ()))

    def test_without_walls(self):
        for ways in range(1, 5):
            self.assert_way(ways, [], ())

    def test_in_one_way(self):
        walls = [(1, 0), (1, 5)]
        self.assertLess(way_out(1, walls, (-1, -1))[0], 0)
        self.assertIsNone(way_out(1, walls, (1, -1)))
        self.assertGreater(way_out(1, walls, (1, 1))[0], 0)

    def test_a_triangle(self):
        walls = [(1, 0, 0), (0, 1, 0), (1, 1, 1)]
        self.assertIsNone(way_out(2, walls, (1, 1, -1)))
        for signs in signs_of(2, walls):
            if signs != (1, 1, -1):
                self.assert_way(2, walls, signs)

    def test_a_strip_goes_on_along_its_walls(self):
        way = way_out(2, [(1, 1, 0), (1, 1, 1)], (1, -1))
        self.assertEqual(way[0] + way[1], 0)
        self.assertNotEqual(way[0], 0)
        way = way_out(3, [(1, 0, 0, 0), (1, 0, 0, 1), (0, 1, 0, 0), (0, 1, 0, 1)], (1, -1, 1, -1))
        self.assertEqual(way[:2], (0, 0))
        self.assertNotEqual(way[2], 0)

    def test_a_single_way(self):
        # The land narrows to the one way up (or down) the last number.
        walls = [(1, 0, 0, 0), (1, 0, 0, 1), (0, 1, 0, 0), (0, 1, 0, 1), (1, 1, 1, 3)]
        for sign in (1, -1):
            way = way_out(3, walls, (1, -1, 1, -1, sign))
            self.assertEqual(way[:2], (0, 0))
            self.assertGreater(sign * way[2], 0)

    def test_just_the_lands_that_go_on(self):
        for ways, walls in ALL:
            for signs in land_signs(walls):
                if goes_on(ways, walls, signs):
                    self.assert_way(ways, walls, signs)
                else:
                    self.assertIsNone(way_out(ways, walls, signs), (ways, walls, signs))

    def test_as_many_go_on_in_no_way_as_the_polynomial_is_worth_at_1(self):
        some = 0
        for ways, walls in ALL + TWELVE:
            closed = [signs for signs in signs_of(ways, walls) if way_out(ways, walls, signs) is None]
            wanted = abs(worth(by_lots(ways, walls), 1)) if fill_space(ways, walls) else 0
            self.assertEqual(len(closed), wanted, (ways, walls))
            some += wanted
        self.assertGreater(some, 330)

    def test_the_ways_of_twelve_walls(self):
        for ways, walls in TWELVE:
            for signs in signs_of(ways, walls):
                if way_out(ways, walls, signs) is not None:
                    self.assert_way(ways, walls, signs)

    def test_signs_that_no_land_has(self):
        for ways, walls in ALL:
            found = land_signs(walls)
            for signs in itertools.product((-1, 1), repeat=len(walls)):
                if signs not in found:
                    self.assert_refused(ways, walls, signs)

    def assert_refused(self, ways, walls, signs):
        with self.assertRaises(NoLand):
            way_out(ways, walls, signs)

    def test_tuples_of_another_length(self):
        for ways, walls in ALL:
            signs = signs_of(ways, walls)[0]
            for sign in (1, -1):
                self.assert_refused(ways, walls, signs + (sign,))
            if walls:
                self.assert_refused(ways, walls, signs[:-1])
                self.assert_refused(ways, walls, signs[1:])
                self.assert_refused(ways, walls, ())
        self.assert_refused(0, [], (1,))
        self.assert_refused(2, [], (0,))

    def test_numbers_that_are_no_sides_of_a_land(self):
        walls = [(1, 0, 0), (0, 1, 0)]
        for signs in ((0, 1), (1, 0), (0, 0), (2, 1), (1, -2), (LONG, 1), (1, -LONG)):
            self.assert_refused(2, walls, signs)

    def test_truths_are_no_signs(self):
        self.assert_refused(1, [(1, 0)], (True,))
        self.assert_refused(1, [(1, 0)], (False,))

    def test_what_is_handed_in_stays(self):
        for ways, walls in ALL:
            kept = copy.deepcopy(walls)
            for signs in signs_of(ways, walls):
                way_out(ways, walls, signs)
                self.assertEqual(walls, kept)


if __name__ == "__main__":
    unittest.main()
