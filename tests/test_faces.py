import copy
import itertools
import math
import unittest

from spaces import (
    GENERAL, LONG, SPACES, THROUGH_ONE, TWELVE, face_signs, face_ways, fits, land_signs, solved, touching,
)
from wallspace.errors import NoFace, NoLand
from wallspace.faces import borders, corners, faces, put_ahead
from wallspace.lands import lands
from wallspace.walls import looked, side

TRIANGLE = [(1, 0, 0), (0, 1, 0), (1, 1, 1)]
CUBE = [(1, 0, 0, 0), (1, 0, 0, 1), (0, 1, 0, 0), (0, 1, 0, 1), (0, 0, 1, 0), (0, 0, 1, 1)]
IN_THE_CUBE = (1, -1, 1, -1, 1, -1)
MORE = [
    (1, [(1, 0), (LONG, 1)]),
    (1, [(1, 5), (1, -5), (2, 1)]),
    (2, TRIANGLE),
    (2, [(1, 0, -1), (1, 0, 1), (0, 1, -1), (0, 1, 1), (1, 1, 0), (1, 1, 2)]),
    (2, [(1, -1, 0), (2, 1, 0), (1, 0, 0), (0, 1, 1)]),
    (2, [(1, 0, 0), (LONG, 1, 0), (LONG, -1, 1)]),
    (3, CUBE),
    (3, [(1, 0, 0, 0), (0, 1, 0, 0), (0, 0, 1, 0), (1, 1, 1, 1), (1, 1, 1, 2)]),
    (3, [(0, 1, 1, 0), (1, 1, 1, 0), (0, 1, -1, 0), (0, 0, 1, 0)]),
    (4, [(1, 0, 0, 0, 0), (0, 1, 0, 0, 0), (0, 0, 1, 0, 0), (0, 0, 0, 1, 0), (1, 1, 1, 1, 1)]),
    (4, [(1, 1, 0, 0, 0), (1, -1, 0, 0, 0), (0, 0, 1, 1, 0), (0, 0, 1, -1, 0), (1, 0, 1, 0, 2)]),
]
ALL = SPACES + MORE
SMALL = [(ways, walls) for ways, walls in ALL if len(walls) <= 4]


def signs_of(ways, walls):
    return [signs for signs, point in faces(ways, walls)]


def of_other_lengths(signs):
    longer = [signs + (sign,) for sign in (-1, 0, 1)]
    return longer + ([(), signs[1:], signs[:-1]] if signs else [])


class Faces(unittest.TestCase):
    def test_no_ways(self):
        self.assertEqual(faces(0, []), [((), ())])

    def test_without_walls_there_is_one_face(self):
        for ways in range(5):
            found = faces(ways, [])
            self.assertEqual([signs for signs, point in found], [()])
            self.assertEqual(len(found[0][1]), ways)

    def test_one_wall(self):
        for one in ((1, 0), (2, 3), (1, -2, 5), (0, 0, 1, 4), (1, 2, 3, 4, 5)):
            self.assertEqual(signs_of(len(one) - 1, [one]), [(-1,), (0,), (1,)])

    def test_a_face_of_no_ways_has_its_one_point(self):
        found = dict(faces(2, TRIANGLE))
        self.assertEqual(found[(0, 0, -1)], ((0, 1), (0, 1)))
        self.assertEqual(found[(0, 1, 0)], ((0, 1), (1, 1)))
        self.assertEqual(found[(1, 0, 0)], ((1, 1), (0, 1)))
        self.assertEqual(dict(faces(1, [(2, 3)]))[(0,)], ((3, 2),))
        self.assertEqual(dict(faces(2, [(2, 1, 1), (1, -1, LONG + 1)]))[(0, 0)], ((LONG + 2, 3), (-1 - 2 * LONG, 3)))

    def test_side_by_side(self):
        wanted = [(-1, -1, -1), (-1, 0, -1), (-1, 1, -1), (-1, 1, 0), (-1, 1, 1), (0, 1, 1), (1, 1, 1)]
        self.assertEqual(signs_of(2, [(1, 1, 4), (1, 1, 0), (1, 1, 2)]), wanted)
        self.assertEqual(signs_of(1, [(1, 4), (1, 0), (1, 2)]), wanted)

    def test_in_general_places(self):
        wanted = [signs for signs in itertools.product((-1, 0, 1), repeat=3) if signs not in (
            (-1, -1, 0), (-1, -1, 1), (-1, 0, 0), (-1, 0, 1), (0, -1, 0), (0, -1, 1), (0, 0, 0), (0, 0, 1))]
        self.assertEqual(signs_of(2, TRIANGLE), wanted)

    def test_through_one_point(self):
        wanted = [
            (-1, -1, -1), (-1, 0, -1), (-1, 1, -1), (-1, 1, 0), (-1, 1, 1), (0, -1, -1), (0, 0, 0), (0, 1, 1),
            (1, -1, -1), (1, -1, 0), (1, -1, 1), (1, 0, 1), (1, 1, 1),
        ]
        self.assertEqual(signs_of(2, [(1, 0, 0), (0, 1, 0), (1, 1, 0)]), wanted)

    def test_all_signs_of_walls_across_one_another(self):
        for ways in range(1, 5):
            walls = [tuple(int(place == way) for place in range(ways)) + (way,) for way in range(ways)]
            self.assertEqual(signs_of(ways, walls), list(itertools.product((-1, 0, 1), repeat=ways)))

    def test_none_twice_and_none_missing(self):
        for ways, walls in ALL:
            looked(ways, walls)
            self.assertEqual(signs_of(ways, walls), face_signs(walls), (ways, walls))

    def test_each_point_tells_its_signs(self):
        for ways, walls in ALL + TWELVE[1:]:
            for signs, point in faces(ways, walls):
                self.assertEqual(tuple(side(one, point) for one in walls), signs)

    def test_the_lands_among_them(self):
        for ways, walls in ALL + TWELVE[1:]:
            found = [signs for signs in signs_of(ways, walls) if 0 not in signs]
            self.assertEqual(found, [signs for signs, point in lands(ways, walls)])

    def count_by_ways(self, ways, walls, found):
        counts = [0] * (ways + 1)
        for signs in found:
            counts[face_ways(ways, walls, signs)] += 1
        return counts

    def test_the_count_of_each_count_of_ways(self):
        known = [
            (0, [], [1]),
            (2, [], [0, 0, 1]),
            (1, [(1, 4), (1, 0), (1, 2)], [3, 4]),
            (2, [(1, 1, 4), (1, 1, 0), (1, 1, 2)], [0, 3, 4]),
            (2, TRIANGLE, [3, 9, 7]),
            (3, CUBE, [8, 36, 54, 27]),
            (4, SPACES[19][1], [0, 1, 14, 36, 24]),
        ]
        for ways, walls, wanted in known:
            self.assertEqual(self.count_by_ways(ways, walls, signs_of(ways, walls)), wanted)

    def test_twelve_walls_in_general_places(self):
        found = faces(4, GENERAL)
        held = [signs for signs, point in found]
        self.assertEqual(held, sorted(set(held)))
        zeros = [signs.count(0) for signs in held]
        # Each lot of none to four of the walls is parted by the others.
        wanted = [sum(math.comb(12 - lot, way) for way in range(5 - lot)) * math.comb(12, lot) for lot in range(5)]
        self.assertEqual([zeros.count(lot) for lot in range(5)], wanted)
        for signs, point in found[::23]:
            self.assertEqual(tuple(side(one, point) for one in GENERAL), signs)

    def test_twelve_walls_through_one_point(self):
        held = signs_of(4, THROUGH_ONE)
        self.assertEqual(held, sorted(set(held)))
        self.assertEqual(held, sorted(tuple(-sign for sign in signs) for signs in held))
        self.assertEqual(self.count_by_ways(4, THROUGH_ONE, held), [1, 48, 240, 384, 192])

    def test_kinds(self):
        for ways, walls in ALL:
            found = faces(ways, walls)
            self.assertIs(type(found), list)
            for face in found:
                self.assertIs(type(face), tuple)
                self.assertEqual([type(value) for value in face], [tuple, tuple])
                self.assertEqual([type(sign) for sign in face[0]], [int] * len(walls))
                self.assertEqual(len(face[1]), ways)
                for value in face[1]:
                    self.assertIs(type(value), tuple)
                    self.assertEqual([type(number) for number in value], [int, int])
                    self.assertGreater(value[1], 0)
                    self.assertEqual(math.gcd(*value), 1)

    def test_what_is_told_is_the_askers_own(self):
        for ways, walls in ALL:
            first = faces(ways, walls)
            kept = list(first)
            first.reverse()
            first.append("mine")
            self.assertEqual(faces(ways, walls), kept)


class PutAhead(unittest.TestCase):
    def test_by_hand(self):
        self.assertEqual(put_ahead(2, TRIANGLE, (0, 0, -1), (1, 1, 1)), (1, 1, -1))
        self.assertEqual(put_ahead(2, TRIANGLE, (1, 1, 1), (0, 0, -1)), (1, 1, 1))
        self.assertEqual(put_ahead(2, TRIANGLE, (0, 1, -1), (-1, 1, 0)), (-1, 1, -1))
        self.assertEqual(put_ahead(2, TRIANGLE, (0, 0, -1), (0, 1, 0)), (0, 1, -1))
        self.assertEqual(put_ahead(1, [(1, 0), (1, 1)], (0, -1), (1, 1)), (1, -1))

    def test_no_walls(self):
        for ways in range(5):
            self.assertEqual(put_ahead(ways, [], (), ()), ())

    def test_a_face_and_itself(self):
        for ways, walls in ALL:
            for signs in face_signs(walls)[::5]:
                self.assertEqual(put_ahead(ways, walls, signs, signs), signs)

    def test_any_two_faces_of_small_lists(self):
        for ways, walls in SMALL:
            held = face_signs(walls)
            for one, other in itertools.product(held, repeat=2):
                found = put_ahead(ways, walls, one, other)
                self.assertIs(type(found), tuple)
                self.assertEqual([type(sign) for sign in found], [int] * len(walls))
                wanted = tuple(other[place] if sign == 0 else sign for place, sign in enumerate(one))
                self.assertEqual(found, wanted)
                self.assertIn(found, held)

    def test_some_faces_of_longer_lists(self):
        for ways, walls in ALL + TWELVE[1:]:
            held = signs_of(ways, walls)
            for one, other in itertools.product(held[::11], held[::17]):
                found = put_ahead(ways, walls, one, other)
                self.assertEqual(found, tuple(sign or behind for sign, behind in zip(one, other)))
                self.assertIn(found, held)

    def assert_refused(self, ways, walls, one, other):
        with self.assertRaises(NoFace):
            put_ahead(ways, walls, one, other)

    def test_signs_that_no_face_has(self):
        for ways, walls in SMALL + [(2, SPACES[8][1])]:
            held = face_signs(walls)
            for signs in itertools.product((-1, 0, 1), repeat=len(walls)):
                if signs not in held:
                    self.assert_refused(ways, walls, signs, held[-1])
                    self.assert_refused(ways, walls, held[0], signs)
                    self.assert_refused(ways, walls, signs, signs)

    def test_signs_without_a_point_whose_lands_signs_were_not_asked(self):
        # Nothing of the second is taken, or all of it, and yet both are looked at.
        self.assert_refused(1, [(1, 0), (1, 1)], (1, 1), (-1, 1))
        self.assert_refused(1, [(1, 0), (1, 1)], (-1, 0), (1, 1))
        self.assert_refused(2, [(1, 0, 0), (0, 1, 0), (1, 1, 0)], (0, 0, 0), (0, 0, 1))

    def test_tuples_of_another_length(self):
        for ways, walls in ALL:
            good = face_signs(walls)[-1]
            for bad in of_other_lengths(good):
                self.assert_refused(ways, walls, bad, good)
                self.assert_refused(ways, walls, good, bad)
                self.assert_refused(ways, walls, bad, bad)

    def test_numbers_that_are_no_signs(self):
        for bad in ((2, 1, 1), (1, 1, -2), (LONG, 1, 1), (True, 1, 1), (1, 1, True), (False, 0, -1)):
            self.assert_refused(2, TRIANGLE, bad, (1, 1, 1))
            self.assert_refused(2, TRIANGLE, (1, 1, 1), bad)


class LandCase(unittest.TestCase):
    def check_refusals(self, deed):
        for ways, walls in ALL:
            held = land_signs(walls)
            for signs in itertools.product((-1, 1), repeat=len(walls)):
                if signs not in held:
                    self.assert_refused(deed, ways, walls, signs)
            for signs in face_signs(walls):
                if 0 in signs:
                    self.assert_refused(deed, ways, walls, signs)
            for signs in of_other_lengths(held[0]):
                self.assert_refused(deed, ways, walls, signs)
        for signs in ((2, 1, 1), (1, 1, -2), (True, 1, 1), (1, False, 1)):
            self.assert_refused(deed, 2, TRIANGLE, signs)

    def assert_refused(self, deed, ways, walls, signs):
        with self.assertRaises(NoLand):
            deed(ways, walls, signs)


class Borders(LandCase):
    def test_no_walls(self):
        for ways in range(5):
            self.assertEqual(borders(ways, [], ()), [])

    def test_by_hand(self):
        self.assertEqual(borders(2, TRIANGLE, (1, 1, -1)), [0, 1, 2])
        self.assertEqual(borders(2, TRIANGLE, (-1, -1, -1)), [0, 1])
        self.assertEqual(borders(2, TRIANGLE, (1, 1, 1)), [0, 1, 2])
        self.assertEqual(borders(2, TRIANGLE, (1, -1, 1)), [1, 2])
        self.assertEqual(borders(3, CUBE, IN_THE_CUBE), [0, 1, 2, 3, 4, 5])
        self.assertEqual(borders(3, CUBE, (-1, -1, 1, -1, 1, -1)), [0, 2, 3, 4, 5])

    def test_side_by_side(self):
        walls = [(1, 1, 4), (1, 1, 0), (1, 1, 2)]
        wanted = {(-1, -1, -1): [1], (-1, 1, -1): [1, 2], (-1, 1, 1): [0, 2], (1, 1, 1): [0]}
        for signs, places in wanted.items():
            self.assertEqual(borders(2, walls, signs), places)

    def test_a_wall_that_touches_a_land_in_its_corner_alone(self):
        walls = [(1, 0, 0), (0, 1, 0), (1, 1, 0)]
        self.assertEqual(borders(2, walls, (1, 1, 1)), [0, 1])
        self.assertEqual(borders(2, walls, (1, -1, 1)), [1, 2])
        # Here a plane holds an edge of the land.
        walls = [(1, 0, 0, 0), (0, 1, 0, 0), (1, 1, 0, 0), (0, 0, 1, 0)]
        self.assertEqual(borders(3, walls, (1, 1, 1, 1)), [0, 1, 3])

    def test_all_faces_one_by_one(self):
        for ways, walls in ALL:
            held = face_signs(walls)
            thin = [signs for signs in held if signs.count(0) == 1 and face_ways(ways, walls, signs) == ways - 1]
            for land in land_signs(walls):
                wanted = sorted(signs.index(0) for signs in touching(thin, land))
                found = borders(ways, walls, land)
                self.assertIs(type(found), list)
                self.assertEqual([type(place) for place in found], [int] * len(found))
                self.assertEqual(found, wanted, (ways, walls, land))

    def test_a_land_is_just_what_is_left_at_its_side_of_them(self):
        for ways, walls in ALL:
            for land in land_signs(walls):
                places = borders(ways, walls, land)
                turned = [tuple(sign * number for number in one) for one, sign in zip(walls, land)]
                within = {place: (turned[place], True) for place in places}
                for place, numbers in enumerate(turned):
                    beyond = (tuple(-number for number in numbers), False)
                    others = [within[other] for other in places if other != place]
                    # Beyond a wall nothing is left by the bordering ones, but where it is one of these itself.
                    self.assertEqual(fits(others + [beyond]), place in places)

    def test_twelve_walls(self):
        for ways, walls in TWELVE:
            held = {signs for signs, point in lands(ways, walls)}
            for land in sorted(held)[::29]:
                # Across a wall that borders a land lies another land.
                across = [land[:place] + (-land[place],) + land[place + 1:] for place in range(12)]
                self.assertEqual(borders(ways, walls, land), [place for place in range(12) if across[place] in held])

    def test_refusals(self):
        self.check_refusals(borders)

    def test_what_is_told_is_the_askers_own(self):
        first = borders(2, TRIANGLE, (1, 1, -1))
        first.clear()
        self.assertEqual(borders(2, TRIANGLE, (1, 1, -1)), [0, 1, 2])


class Corners(LandCase):
    def test_no_ways(self):
        self.assertEqual(corners(0, [], ()), [()])

    def test_no_walls(self):
        for ways in range(1, 5):
            self.assertEqual(corners(ways, [], ()), [])

    def test_in_one_way(self):
        walls = [(1, 5), (2, 1), (1, -5)]
        self.assertEqual(corners(1, walls, (-1, -1, -1)), [((-5, 1),)])
        self.assertEqual(corners(1, walls, (-1, -1, 1)), [((-5, 1),), ((1, 2),)])
        # The order is that of the faces' signs: (-1, 0, 1) stands ahead of (0, 1, 1), (0, 1) ahead of (1, 0).
        self.assertEqual(corners(1, walls, (-1, 1, 1)), [((1, 2),), ((5, 1),)])
        self.assertEqual(corners(1, [(1, 5), (1, 7)], (1, -1)), [((5, 1),), ((7, 1),)])
        self.assertEqual(corners(1, [(1, 7), (1, 5)], (-1, 1)), [((5, 1),), ((7, 1),)])

    def test_by_hand(self):
        # Their signs are (0, 0, -1), (0, 1, 0) and (1, 0, 0).
        wanted = [((0, 1), (0, 1)), ((0, 1), (1, 1)), ((1, 1), (0, 1))]
        self.assertEqual(corners(2, TRIANGLE, (1, 1, -1)), wanted)
        self.assertEqual(corners(2, TRIANGLE, (1, 1, 1)), wanted[1:])
        self.assertEqual(corners(2, TRIANGLE, (-1, -1, -1)), wanted[:1])
        # With signs turned by other walls the order is another one: (-1, 0, 0), (0, 0, 1), (0, 1, 0).
        walls = [(1, 0, 1), (0, 1, 0), (1, -1, 0)]
        wanted = [((0, 1), (0, 1)), ((1, 1), (0, 1)), ((1, 1), (1, 1))]
        self.assertEqual(corners(2, walls, (-1, 1, 1)), wanted)

    def test_a_cube(self):
        found = corners(3, CUBE, IN_THE_CUBE)
        self.assertEqual(len(found), 8)
        # A number 0 has the signs (0, -1), a number 1 has (1, 0).
        self.assertEqual(found, list(itertools.product(((0, 1), (1, 1)), repeat=3)))
        self.assertEqual(corners(3, CUBE, (-1, -1, -1, -1, -1, -1)), [((0, 1), (0, 1), (0, 1))])

    def test_lands_without_corners(self):
        self.assertEqual(corners(2, [(1, 1, 0), (1, 1, 1)], (1, -1)), [])
        self.assertEqual(corners(2, [(0, 1, 5)], (1,)), [])
        walls = [(1, -1, 0, 0), (1, 0, -1, 0), (0, 1, -1, 0)]
        for land in land_signs(walls):
            self.assertEqual(corners(3, walls, land), [])
        # This land lies beside those that have corners.
        self.assertEqual(corners(3, CUBE[:4] + [(0, 0, 1, 0)], (1, -1, 1, -1, 1))[0], ((0, 1), (0, 1), (0, 1)))
        self.assertEqual(corners(3, CUBE[:4], (1, -1, 1, -1)), [])

    def test_more_walls_meet_in_a_corner_than_border_the_land(self):
        walls = [(1, 0, 0), (1, 1, 0), (0, 1, 0), (1, 2, 0)]
        self.assertEqual(corners(2, walls, (1, 1, 1, 1)), [((0, 1), (0, 1))])
        walls = [(1, 0, 0, 0), (1, 1, 1, 0), (0, 1, 0, 0), (1, 1, 0, 0), (0, 0, 1, 0), (1, 1, 1, 2)]
        found = corners(3, walls, (1, 1, 1, 1, 1, -1))
        self.assertEqual(found[0], ((0, 1), (0, 1), (0, 1)))
        self.assertEqual(found[1:], [tuple((2 * (place == way), 1) for place in range(3)) for way in (2, 1, 0)])

    def test_all_faces_one_by_one(self):
        some = 0
        for ways, walls in ALL:
            points = {}
            for signs in face_signs(walls):
                if face_ways(ways, walls, signs) == 0:
                    rows = solved(ways, [one for one, sign in zip(walls, signs) if sign == 0])
                    shared = [math.gcd(row[place], row[-1]) for place, row in enumerate(rows)]
                    points[signs] = tuple(
                        (row[-1] // by, row[place] // by) for place, (row, by) in enumerate(zip(rows, shared)))
            for land in land_signs(walls):
                found = corners(ways, walls, land)
                self.assertIs(type(found), list)
                self.assertEqual(found, [points[signs] for signs in touching(points, land)], (ways, walls, land))
                some += len(found)
        self.assertGreater(some, 300)

    def test_twelve_walls(self):
        for ways, walls in TWELVE:
            thin = dict(face for face in faces(ways, walls) if face_ways(ways, walls, face[0]) == 0)
            for land in [signs for signs, point in lands(ways, walls)][::41]:
                found = corners(ways, walls, land)
                self.assertEqual(found, [thin[signs] for signs in touching(thin, land)])

    def test_refusals(self):
        self.check_refusals(corners)

    def test_what_is_told_is_the_askers_own(self):
        first = corners(2, TRIANGLE, (1, 1, -1))
        kept = list(first)
        first.reverse()
        first.append("mine")
        self.assertEqual(corners(2, TRIANGLE, (1, 1, -1)), kept)


class WhatIsHandedIn(unittest.TestCase):
    def test_stays(self):
        for ways, walls in ALL:
            kept = copy.deepcopy(walls)
            held = land_signs(walls)
            faces(ways, walls)
            put_ahead(ways, walls, held[0], held[-1])
            borders(ways, walls, held[0])
            corners(ways, walls, held[-1])
            self.assertEqual(walls, kept)


if __name__ == "__main__":
    unittest.main()
