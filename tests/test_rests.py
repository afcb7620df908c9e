import copy
import itertools
import math
import unittest

from spaces import LONG, SPACES
from wallspace.rests import off_all, trouble

PRIMES = (2, 3, 5, 7, 11, 13)


def by_hand(ways, walls, prime):
    count = 0
    for point in itertools.product(range(prime), repeat=ways):
        sums = [sum(number * along for number, along in zip(one[:-1], point)) - one[-1] for one in walls]
        count += all(total % prime != 0 for total in sums)
    return count


def sign_of(order):
    return (-1) ** sum(one > other for one, other in itertools.combinations(order, 2))


def determinant(piece):
    """The sum over all orders of the columns."""
    orders = itertools.permutations(range(len(piece)))
    return sum(sign_of(order) * math.prod(row[at] for row, at in zip(piece, order)) for order in orders)


def all_determinants(ways, walls):
    found = []
    for size in range(1, min(len(walls), ways + 1) + 1):
        for rows in itertools.combinations(walls, size):
            for columns in itertools.combinations(range(ways + 1), size):
                found.append(determinant([[row[column] for column in columns] for row in rows]))
    return found


class OffAll(unittest.TestCase):
    def test_without_walls_all_points(self):
        for ways in range(4):
            for prime in PRIMES:
                self.assertEqual(off_all(ways, [], prime), prime ** ways)

    def test_in_one_way(self):
        self.assertEqual(off_all(1, [(1, 0), (1, 1)], 2), 0)
        self.assertEqual(off_all(1, [(1, 0), (1, 1)], 5), 3)
        self.assertEqual(off_all(1, [(1, 0), (1, 5)], 5), 4)
        self.assertEqual(off_all(1, [(1, 0), (1, -1), (1, 1)], 3), 0)

    def test_walls_that_the_prime_divides(self):
        # By rests of 3 the sum 3 x is 0 everywhere, so no point lies on 3 x = 1.
        self.assertEqual(off_all(1, [(3, 1)], 3), 3)
        self.assertEqual(off_all(2, [(3, 6, 2), (1, 0, 0)], 3), 6)
        self.assertEqual(off_all(2, [(13, 26, -1)], 13), 169)

    def test_in_the_plane(self):
        self.assertEqual(off_all(2, [(1, 0, 0), (0, 1, 0)], 7), 36)
        self.assertEqual(off_all(2, [(1, 0, 0), (0, 1, 0), (1, 1, 1)], 5), 13)
        self.assertEqual(off_all(2, [(1, 1, 0), (1, -1, 0)], 2), 2)

    def test_numbers_below_0(self):
        self.assertEqual(off_all(1, [(1, -1)], 7), 6)
        self.assertEqual(off_all(1, [(1, -1), (1, 6)], 7), 6)
        self.assertEqual(off_all(2, [(1, -1, -3), (1, 6, 4)], 7), 42)

    def test_many_figures(self):
        self.assertEqual(off_all(1, [(1, 7 * LONG), (1, 0)], 7), 6)
        self.assertEqual(off_all(1, [(1, -(7 ** 400) + 1), (1, 1), (1, 7 ** 300 + 2)], 7), 5)
        walls = [(LONG, -LONG - 1, 10 ** 400 + 1), (1, -(10 ** 400), LONG), (0, 1, -(10 ** 400))]
        for prime in PRIMES:
            self.assertEqual(off_all(2, walls, prime), by_hand(2, walls, prime))

    def test_all_spaces(self):
        for ways, walls in SPACES:
            for prime in PRIMES if ways < 4 else (2, 3):
                found = off_all(ways, walls, prime)
                self.assertEqual(found, by_hand(ways, walls, prime), (ways, walls, prime))
                self.assertIs(type(found), int)

    def test_twelve_walls(self):
        walls = [(1, t, t ** 2, -t) for t in range(-5, 7)]
        for prime in PRIMES:
            self.assertEqual(off_all(3, walls, prime), by_hand(3, walls, prime))

    def test_what_is_handed_in_stays(self):
        for ways, walls in SPACES:
            kept = copy.deepcopy(walls)
            off_all(ways, walls, 3)
            self.assertEqual(walls, kept)


class Trouble(unittest.TestCase):
    def test_without_walls(self):
        for ways in range(5):
            self.assertEqual(trouble(ways, []), 1)

    def test_one_wall(self):
        self.assertEqual(trouble(1, [(1, 0)]), 1)
        self.assertEqual(trouble(1, [(2, 3)]), 6)
        self.assertEqual(trouble(2, [(4, -6, 9)]), 36)

    def test_the_last_column_counts(self):
        self.assertEqual(trouble(1, [(1, 7)]), 7)
        self.assertEqual(trouble(1, [(1, 0), (1, 5)]), 5)
        self.assertEqual(trouble(1, [(1, 2), (1, 5)]), 30)
        self.assertEqual(trouble(2, [(1, 0, 0), (0, 1, 0), (1, 1, 11)]), 11)

    def test_determinants_of_two_rows(self):
        self.assertEqual(trouble(2, [(1, 1, 0), (1, -1, 0)]), 2)
        self.assertEqual(trouble(2, [(1, 2, 0), (3, 1, 0)]), 30)
        # 1 * 5 - 2 * 3 is -1, 1 * 0 - 0 * 3 is 0: neither a number below 0 nor 0 itself does harm.
        self.assertEqual(trouble(2, [(1, 2, 0), (3, 5, 0)]), 30)

    def test_determinants_of_three_rows(self):
        # Of the three ways it is 2: 1 * 1 * 1 + 1 * 1 * 1.
        self.assertEqual(trouble(3, [(1, 1, 0, 0), (0, 1, 1, 0), (1, 0, 1, 0)]), 2)
        # Of one or two rows they are 1, 2 or 0 but for the sign; the whole table with the last column has 3.
        self.assertEqual(determinant([[1, 1, 0], [0, 1, 1], [1, 0, 2]]), 3)
        self.assertEqual(trouble(2, [(1, 1, 0), (0, 1, 1), (1, 0, 2)]), 6)

    def test_more_walls_than_columns_and_fewer(self):
        self.assertEqual(trouble(1, [(1, 0), (1, 1), (1, 2), (1, 4)]), 12)
        self.assertEqual(trouble(4, [(1, 0, 0, 0, 3), (0, 1, 0, 0, 4)]), 12)

    def test_all_spaces(self):
        more = [
            (3, [(1, t, t ** 2, t ** 3) for t in range(-3, 5)]),
            (4, [(1, 2, 0, -1, 3), (0, 3, 1, 1, 0), (2, 0, 1, 0, 5),
                 (1, 1, 1, 1, 1), (3, -1, 0, 2, 7), (0, 0, 2, 5, 1)]),
        ]
        for ways, walls in SPACES + more:
            wanted = math.lcm(*[number for number in all_determinants(ways, walls) if number != 0])
            found = trouble(ways, walls)
            self.assertEqual(found, wanted, (ways, walls))
            self.assertIs(type(found), int)
            self.assertGreater(found, 0)

    def test_many_figures(self):
        self.assertEqual(trouble(1, [(1, LONG)]), LONG)
        self.assertEqual(trouble(1, [(1, 10 ** 500), (1, -(10 ** 500))]), 2 * 10 ** 500)
        self.assertEqual(trouble(2, [(1, LONG, 0), (0, 1, 0)]), LONG)

    def test_eight_walls_in_four_ways(self):
        walls = [(1, t, t ** 2, t ** 3, t ** 4) for t in range(-3, 5)]
        numbers = [number for number in all_determinants(4, walls) if number != 0]
        self.assertEqual(trouble(4, walls), math.lcm(*numbers))

    def test_what_is_handed_in_stays(self):
        for ways, walls in SPACES:
            kept = copy.deepcopy(walls)
            trouble(ways, walls)
            self.assertEqual(walls, kept)


if __name__ == "__main__":
    unittest.main()
