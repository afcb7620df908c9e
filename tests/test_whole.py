"""What the parts of the program promise together."""

import copy
import itertools
import unittest

from spaces import LONG, SPACES, TWELVE, face_ways, fill_space, fits
from wallspace.faces import borders, corners, faces, put_ahead
from wallspace.hall import Hall
from wallspace.lands import lands, way_out
from wallspace.pairs import of_pairs, runnings
from wallspace.parts import common, ladder
from wallspace.polynomials import by_ladder, by_lots, by_taking_out, drawn_into, worth
from wallspace.rests import off_all, trouble
from wallspace.rings import by_unbroken, rings, unbroken
from wallspace.walks import between, walk
from wallspace.walls import looked, side, wall

PRIMES = (2, 3, 5, 7, 11, 13)


def made(ways, count, seed):
    """Walls of small numbers that fall as they like, the same ones each time."""
    walls = []
    while len(walls) < count:
        numbers = []
        for place in range(ways + 1):
            seed = seed * 1103515245 % 2147483647
            numbers.append(seed % 5 - 2)
        if any(numbers[:-1]) and wall(numbers) not in walls:
            walls.append(wall(numbers))
    return walls


MADE = [(ways, made(ways, count, seed)) for seed, (ways, count) in enumerate([
    (1, 3), (2, 3), (2, 5), (2, 8), (3, 3), (3, 4), (3, 6), (3, 8), (4, 4), (4, 6), (4, 8),
], start=17)]
LONG_ONES = [
    (1, [(1, LONG), (1, -LONG), (LONG, 1)]),
    (2, [(1, 0, 17 * LONG), (1, 1, -LONG), (0, 1, 1), (1, -1, LONG)]),
    (3, [(1, 0, 0, LONG), (1, 1, LONG, 0), (0, 1, -1, LONG), (1, 0, 0, -LONG)]),
]


def side_by_side(ways):
    return [tuple(range(1, ways + 1)) + (last,) for last in (0, 2, -1, 5)]


def through_one_point(ways):
    """Walls of many slopes, all through the point whose numbers are 1, 2, 3 .."""
    slopes = [tuple(t ** way for way in range(ways)) for t in (-2, -1, 1, 2, 3, 5)]
    walls = [slope + (sum(number * (way + 1) for way, number in enumerate(slope)),) for slope in slopes]
    return list(dict.fromkeys(walls))


def in_general_places(ways):
    return [tuple(t ** way for way in range(ways + 1)) for t in (-2, -1, 0, 1, 2, 3)]


KINDS = [(0, [])] + [(ways, make(ways)) for make in (side_by_side, through_one_point, in_general_places)
                     for ways in range(1, 5)]
ALL = SPACES + MADE + LONG_ONES + KINDS


def walls_in_part(ways, walls, rows):
    """The walls drawn into a part: into each of its rows, one by one."""
    left = rows + [one for one in walls if one not in rows]
    for step in range(len(rows)):
        left = drawn_into(ways - step, left, 0)
    return left


def lands_of_parts(ways, walls):
    """How many lands there are in all common parts of each count of ways."""
    counts = [0] * (ways + 1)
    for places, rows, sign in ladder(ways, walls):
        inner = ways - len(rows)
        counts[inner] += len(lands(inner, walls_in_part(ways, walls, rows)))
    return counts


class TheWhole(unittest.TestCase):
    def test_all_are_walls(self):
        for ways, walls in ALL:
            looked(ways, walls)

    def test_one_polynomial(self):
        for ways, walls in ALL + TWELVE:
            found = by_ladder(ways, walls)
            for told_by in (by_lots, by_taking_out, by_unbroken):
                self.assertEqual(told_by(ways, walls), found, (told_by.__name__, ways, walls))

    def test_it_counts_the_points_by_rests(self):
        asked = 0
        for ways, walls in ALL:
            if ways <= 3:
                polynomial = by_lots(ways, walls)
                told = trouble(ways, walls)
                for prime in PRIMES:
                    if told % prime != 0:
                        self.assertEqual(off_all(ways, walls, prime), worth(polynomial, prime), (ways, walls, prime))
                        asked += bool(walls)
        self.assertGreater(asked, 40)

    def test_it_counts_the_lands(self):
        for ways, walls in ALL + TWELVE:
            found = [signs for signs, point in lands(ways, walls)]
            self.assertEqual(len(found), abs(worth(by_ladder(ways, walls), -1)))
            self.assertEqual(found, sorted(set(found)))

    def test_it_counts_the_lands_that_go_on_in_no_way(self):
        for ways, walls in ALL:
            closed = [signs for signs, point in lands(ways, walls) if way_out(ways, walls, signs) is None]
            wanted = abs(worth(by_ladder(ways, walls), 1)) if fill_space(ways, walls) else 0
            self.assertEqual(len(closed), wanted, (ways, walls))

    def test_a_walk_crosses_just_the_walls_that_part_its_lands(self):
        for ways, walls in MADE + LONG_ONES + KINDS:
            held = [signs for signs, point in lands(ways, walls)]
            for one, other in itertools.product(held[::5], held[::7]):
                steps = walk(ways, walls, one, other)
                crossings = [between(ways, walls, signs, after) for signs, after in zip(steps, steps[1:])]
                self.assertEqual((steps[0], steps[-1]), (one, other))
                self.assertEqual(sorted(crossings), [[place] for place in between(ways, walls, one, other)])

    def test_each_lands_point_lies_in_it(self):
        for ways, walls in ALL:
            for signs, point in lands(ways, walls):
                self.assertEqual(tuple(side(one, point) for one in walls), signs)

    def test_the_polynomial_counts_the_runnings(self):
        for count in range(7):
            pairs = list(itertools.combinations(range(4), 2))[:count]
            walls = of_pairs(4, [(one, other, 0) for one, other in pairs])
            self.assertEqual(len(runnings(4, pairs)), abs(worth(by_unbroken(4, walls), -1)))


class TheFaces(unittest.TestCase):
    def test_as_many_as_the_lands_in_all_common_parts(self):
        for ways, walls in ALL + TWELVE[1:]:
            counts = [0] * (ways + 1)
            for signs, point in faces(ways, walls):
                counts[face_ways(ways, walls, signs)] += 1
                self.assertEqual(tuple(side(one, point) for one in walls), signs)
            self.assertEqual(counts, lands_of_parts(ways, walls), (ways, walls))

    def test_any_face_put_ahead_of_any_other_one_is_a_face(self):
        for ways, walls in ALL:
            held = [signs for signs, point in faces(ways, walls)]
            known = dict.fromkeys(held, True)
            step = 1 + len(held) // 20
            for one, other in itertools.product(held[::step], held[::-step]):
                found = put_ahead(ways, walls, one, other)
                self.assertIn(found, known)
                self.assertEqual(found, tuple(sign or behind for sign, behind in zip(one, other)))

    def test_a_land_is_just_what_is_left_at_its_side_of_the_walls_that_border_it(self):
        for ways, walls in ALL:
            held = [signs for signs, point in lands(ways, walls)]
            for land in held[::1 + len(held) // 10]:
                turned = [tuple(sign * number for number in one) for one, sign in zip(walls, land)]
                places = borders(ways, walls, land)
                for place, numbers in enumerate(turned):
                    beyond = (tuple(-number for number in numbers), False)
                    others = [(turned[other], True) for other in places if other != place]
                    self.assertEqual(fits(others + [beyond]), place in places, (ways, walls, land))

    def test_alternating_they_sum_to_that_of_space_itself(self):
        # A check by another way: 1 for each face of an even count of ways, less 1 for each other one.
        for ways, walls in ALL + TWELVE[1:]:
            even = [(-1) ** face_ways(ways, walls, signs) for signs, point in faces(ways, walls)]
            self.assertEqual(sum(even), (-1) ** ways)


def all_answers(ways, walls, held):
    """What everything that takes walls tells of some, a land and a face of theirs."""
    land, face = held
    hall = Hall(ways)
    for one in walls:
        hall.put(one)
    told = [ask(ways, walls) for ask in (
        looked, ladder, by_ladder, by_lots, by_taking_out, lands, rings, unbroken, by_unbroken, faces, trouble)]
    told += [common(ways, walls, list(range(count))) for count in range(len(walls) + 1)]
    told += [drawn_into(ways, walls, place) for place in range(len(walls))]
    told += [way_out(ways, walls, land), borders(ways, walls, land), corners(ways, walls, land)]
    told += [between(ways, walls, land, land), walk(ways, walls, land, land), put_ahead(ways, walls, face, land)]
    return told + [hall.walls(), hall.polynomial(), hall.lands(), hall.ways_out()]


def spoil(value):
    """Change a list, and all lists in it, as an asker may."""
    if isinstance(value, (list, tuple)):
        for inner in value:
            spoil(inner)
    if isinstance(value, list):
        value.append("mine")


class WhoseTheyAre(unittest.TestCase):
    def test_what_is_handed_in_stays_and_what_is_told_is_the_askers_own(self):
        for ways, walls in SPACES + KINDS:
            kept = list(walls)
            held = (lands(ways, walls)[-1][0], faces(ways, walls)[0][0])
            first = all_answers(ways, walls, held)
            self.assertEqual(walls, kept)
            told = copy.deepcopy(first)
            for place in range(len(first)):
                spoil(first[place])
                self.assertEqual(first[place + 1:], told[place + 1:])
            self.assertEqual(walls, kept)
            self.assertEqual(all_answers(ways, walls, held), told)


if __name__ == "__main__":
    unittest.main()
