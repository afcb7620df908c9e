import copy
import itertools
import math
import unittest
from fractions import Fraction

from wallspace.errors import NoWall
from wallspace.walls import looked, side, wall

LONG = 10 ** 300 + 7


class Walls(unittest.TestCase):
    def assert_no_wall(self, place, deed):
        with self.assertRaises(NoWall) as caught:
            deed()
        self.assertEqual(caught.exception.place, place)
        self.assertIs(type(caught.exception.place), int)


class Wall(Walls):
    def test_a_good_wall_stays(self):
        for numbers in ((1, 0), (1, 2, 3), (0, 1, 0), (2, 0, 0, 3), (0, 0, 0, 1, -5)):
            self.assertEqual(wall(list(numbers)), numbers)

    def test_is_a_tuple_of_ints(self):
        found = wall([2, 4, 6])
        self.assertIs(type(found), tuple)
        self.assertEqual([type(number) for number in found], [int, int, int])

    def test_a_common_divisor(self):
        self.assertEqual(wall([2, 4, 6]), (1, 2, 3))
        self.assertEqual(wall([6, 0]), (1, 0))
        self.assertEqual(wall([0, 9, 6]), (0, 3, 2))
        self.assertEqual(wall([12, 18, -30, 0, 6]), (2, 3, -5, 0, 1))

    def test_the_last_number_counts_for_the_divisor(self):
        self.assertEqual(wall([2, 4, 3]), (2, 4, 3))
        self.assertEqual(wall([2, 3]), (2, 3))

    def test_the_first_number_below_0(self):
        self.assertEqual(wall([-1, 2, 3]), (1, -2, -3))
        self.assertEqual(wall([0, -2, 4]), (0, 1, -2))
        self.assertEqual(wall([0, 0, -3, -5]), (0, 0, 3, 5))
        self.assertEqual(wall([-7, 0]), (1, 0))

    def test_only_the_first_number_turns_the_signs(self):
        self.assertEqual(wall([1, -2, -3]), (1, -2, -3))
        self.assertEqual(wall([0, 1, -3]), (0, 1, -3))

    def test_many_figures(self):
        self.assertEqual(wall([-2 * LONG, 4 * LONG, 6 * LONG]), (1, -2, -3))
        self.assertEqual(wall([LONG, LONG + 1, 0]), (LONG, LONG + 1, 0))
        self.assertEqual(wall([0, -(10 ** 6000), 10 ** 6001]), (0, 1, -10))

    def test_each_wall_has_one_form(self):
        for numbers in itertools.product(range(-3, 4), repeat=3):
            if any(numbers[:-1]):
                found = wall(list(numbers))
                self.assertEqual(math.gcd(*found), 1)
                self.assertGreater([number for number in found if number][0], 0)
                for many in (-4, -1, 3):
                    self.assertEqual(wall([many * number for number in numbers]), found)

    def test_ways_all_0_are_refused(self):
        for numbers in ([0, 0], [0, 5], [0, 0, 0], [0, 0, -1], [0, 0, 0, 0, 8]):
            self.assert_no_wall(0, lambda: wall(numbers))

    def test_no_ways_are_always_refused(self):
        for numbers in ([0], [1], [-1], [LONG]):
            self.assert_no_wall(0, lambda: wall(numbers))

    def test_what_is_handed_in_stays(self):
        numbers = [-2, 4, 6]
        wall(numbers)
        self.assertEqual(numbers, [-2, 4, 6])


class Looked(Walls):
    def test_no_walls(self):
        for ways in range(5):
            self.assertIsNone(looked(ways, []))

    def test_good_walls(self):
        self.assertIsNone(looked(1, [(1, 0), (1, 1), (2, 1)]))
        self.assertIsNone(looked(2, [(1, 0, 0), (0, 1, 0), (1, 1, 0), (1, 1, 1)]))
        self.assertIsNone(looked(4, [(0, 0, 0, 1, 0), (1, -1, 0, 0, -LONG)]))
        self.assertIsNone(looked(1, [(1, number) for number in range(14)]))

    def test_another_length(self):
        self.assert_no_wall(0, lambda: looked(2, [(1, 0)]))
        self.assert_no_wall(0, lambda: looked(2, [(1, 0, 0, 0)]))
        self.assert_no_wall(1, lambda: looked(2, [(1, 0, 0), (1, 0)]))
        self.assert_no_wall(2, lambda: looked(1, [(1, 0), (1, 1), (1, 0, 2)]))
        self.assert_no_wall(0, lambda: looked(2, [()]))

    def test_in_no_ways_there_is_no_wall(self):
        for numbers in ((1,), (0,), (-1,), (1, 0), ()):
            self.assert_no_wall(0, lambda: looked(0, [numbers]))

    def test_no_walls_by_form(self):
        for numbers in ((0, 0, 1), (0, 0, 0), (2, 4, 6), (-1, 0, 0), (0, -1, 2), (2, 0, 0)):
            self.assert_no_wall(0, lambda: looked(2, [numbers]))
            self.assert_no_wall(1, lambda: looked(2, [(1, 1, 1), numbers]))

    def test_truths_are_no_whole_numbers(self):
        self.assert_no_wall(0, lambda: looked(1, [(True, 0)]))
        self.assert_no_wall(1, lambda: looked(1, [(1, 3), (1, False)]))

    def test_a_list_is_no_wall(self):
        self.assert_no_wall(1, lambda: looked(1, [(1, 3), [1, 0]]))

    def test_alike_walls(self):
        self.assert_no_wall(1, lambda: looked(1, [(1, 0), (1, 0)]))
        self.assert_no_wall(2, lambda: looked(2, [(1, 0, 0), (0, 1, 0), (1, 0, 0), (0, 1, 0)]))
        self.assert_no_wall(3, lambda: looked(1, [(1, 0), (1, 1), (1, 2), (1, 1)]))

    def test_the_first_place_is_kept(self):
        self.assert_no_wall(1, lambda: looked(1, [(1, 0), (2, 0), (1, 0), (1,)]))
        self.assert_no_wall(1, lambda: looked(1, [(1, 0), (1, 0), (2, 0), (1,)]))
        self.assert_no_wall(1, lambda: looked(1, [(1, 0), (1,), (1, 0), (2, 0)]))

    def test_what_is_handed_in_stays(self):
        walls = [(1, 0), (1, 1), (2, 4)]
        kept = copy.deepcopy(walls)
        self.assert_no_wall(2, lambda: looked(1, walls))
        self.assertEqual(walls, kept)


class Side(unittest.TestCase):
    def test_in_one_way(self):
        self.assertEqual(side((1, 2), ((5, 2),)), 1)
        self.assertEqual(side((1, 2), ((2, 1),)), 0)
        self.assertEqual(side((1, 2), ((3, 2),)), -1)
        self.assertEqual(side((3, 2), ((2, 3),)), 0)

    def test_in_the_plane(self):
        self.assertEqual(side((1, 1, 1), ((1, 2), (1, 2))), 0)
        self.assertEqual(side((1, 1, 1), ((1, 2), (2, 3))), 1)
        self.assertEqual(side((1, 1, 1), ((1, 2), (1, 3))), -1)
        self.assertEqual(side((2, -3, -1), ((0, 1), (1, 3))), 0)
        self.assertEqual(side((1, -1, 0), ((-1, 2), (-1, 3))), -1)

    def test_is_an_int(self):
        for along in ((1, 1), (0, 1), (-1, 1)):
            self.assertIs(type(side((1, 0), (along,))), int)

    def test_nothing_is_near(self):
        self.assertEqual(side((LONG, 1), ((1, LONG),)), 0)
        self.assertEqual(side((LONG, 1), ((1, LONG - 1),)), 1)
        self.assertEqual(side((LONG, 1), ((1, LONG + 1),)), -1)

    def test_against_pythons_fractions(self):
        walls = [(1, 0, 0, 0, 0), (1, 2, -3, 4, -5), (0, 3, 0, -2, 1), (0, 0, 0, 1, 7)]
        numbers = [Fraction(-7, 3), Fraction(0), Fraction(1, 2), Fraction(5)]
        for point in itertools.product(numbers, repeat=4):
            fractions = tuple((value.numerator, value.denominator) for value in point)
            for one in walls:
                total = sum(number * value for number, value in zip(one, point)) - one[-1]
                self.assertEqual(side(one, fractions), (total > 0) - (total < 0))


if __name__ == "__main__":
    unittest.main()
