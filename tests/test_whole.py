"""What the parts of the program promise together."""

import itertools
import unittest

from spaces import LONG, SPACES, TWELVE, fill_space
from wallspace.lands import lands, way_out
from wallspace.polynomials import by_ladder, by_lots, by_taking_out, worth
from wallspace.rests import off_all, trouble
from wallspace.walks import between, walk
from wallspace.walls import looked, wall

PRIMES = (2, 3, 5, 7, 11, 13)


def made(ways, count, seed):
    """Walls of small numbers that fall as they like, the same ones each time."""
    walls = []
    while len(walls) < count:
        numbers = []
        for place in range(ways + 1):
            seed = seed * 1103515245 % 2147483647
            numbers.append(seed % 5 - 2)
        if any(numbers[:-1]) and wall(numbers) not in walls:
            walls.append(wall(numbers))
    return walls


MADE = [(ways, made(ways, count, seed)) for seed, (ways, count) in enumerate([
    (1, 3), (2, 3), (2, 5), (2, 8), (3, 3), (3, 4), (3, 6), (3, 8), (4, 4), (4, 6), (4, 8),
], start=17)]
LONG_ONES = [
    (1, [(1, LONG), (1, -LONG), (LONG, 1)]),
    (2, [(1, 0, 17 * LONG), (1, 1, -LONG), (0, 1, 1), (1, -1, LONG)]),
    (3, [(1, 0, 0, LONG), (1, 1, LONG, 0), (0, 1, -1, LONG), (1, 0, 0, -LONG)]),
]
ALL = SPACES + MADE + LONG_ONES


class TheWhole(unittest.TestCase):
    def test_all_are_walls(self):
        for ways, walls in ALL:
            looked(ways, walls)

    def test_one_polynomial(self):
        for ways, walls in ALL + TWELVE:
            found = by_ladder(ways, walls)
            self.assertEqual(by_lots(ways, walls), found)
            self.assertEqual(by_taking_out(ways, walls), found)

    def test_it_counts_the_points_by_rests(self):
        asked = 0
        for ways, walls in ALL:
            if ways <= 3:
                polynomial = by_lots(ways, walls)
                told = trouble(ways, walls)
                for prime in PRIMES:
                    if told % prime != 0:
                        self.assertEqual(off_all(ways, walls, prime), worth(polynomial, prime), (ways, walls, prime))
                        asked += bool(walls)
        self.assertGreater(asked, 40)

    def test_it_counts_the_lands(self):
        for ways, walls in ALL + TWELVE:
            found = [signs for signs, point in lands(ways, walls)]
            self.assertEqual(len(found), abs(worth(by_ladder(ways, walls), -1)))
            self.assertEqual(found, sorted(set(found)))

    def test_it_counts_the_lands_that_go_on_in_no_way(self):
        for ways, walls in ALL:
            closed = [signs for signs, point in lands(ways, walls) if way_out(ways, walls, signs) is None]
            wanted = abs(worth(by_ladder(ways, walls), 1)) if fill_space(ways, walls) else 0
            self.assertEqual(len(closed), wanted, (ways, walls))

    def test_a_walk_crosses_just_the_walls_that_part_its_lands(self):
        for ways, walls in MADE + LONG_ONES:
            held = [signs for signs, point in lands(ways, walls)]
            for one, other in itertools.product(held[::5], held[::7]):
                steps = walk(ways, walls, one, other)
                crossings = [between(ways, walls, signs, after) for signs, after in zip(steps, steps[1:])]
                self.assertEqual((steps[0], steps[-1]), (one, other))
                self.assertEqual(sorted(crossings), [[place] for place in between(ways, walls, one, other)])


if __name__ == "__main__":
    unittest.main()
