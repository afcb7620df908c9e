import math
import unittest
from fractions import Fraction

from wallspace.errors import NoNumber
from wallspace.ratios import below, divisor, minus, over, plus, ratio, times

LONG = 10 ** 300 + 7
NUMBERS = [-LONG, -12, -7, -6, -1, 0, 1, 2, 3, 4, 6, 9, 30, 2 ** 70, 6 * LONG]


def told(value):
    return (value.numerator, value.denominator)


class Kinds(unittest.TestCase):
    def assert_fraction(self, value):
        self.assertIs(type(value), tuple)
        self.assertEqual([type(number) for number in value], [int, int])
        self.assertGreater(value[1], 0)
        self.assertEqual(math.gcd(value[0], value[1]), 1)


class Divisor(unittest.TestCase):
    def test_of_noughts(self):
        self.assertEqual(divisor(0, 0), 0)
        self.assertEqual(divisor(0, 5), 5)
        self.assertEqual(divisor(5, 0), 5)
        self.assertEqual(divisor(0, -5), 5)
        self.assertEqual(divisor(-5, 0), 5)

    def test_of_ordinary_numbers(self):
        self.assertEqual(divisor(12, 18), 6)
        self.assertEqual(divisor(18, 12), 6)
        self.assertEqual(divisor(7, 9), 1)
        self.assertEqual(divisor(4, 8), 4)
        self.assertEqual(divisor(1, 1), 1)

    def test_is_never_below_0(self):
        self.assertEqual(divisor(-12, 18), 6)
        self.assertEqual(divisor(12, -18), 6)
        self.assertEqual(divisor(-12, -18), 6)
        self.assertEqual(divisor(-7, -1), 1)

    def test_of_many_figures(self):
        self.assertEqual(divisor(6 * LONG, 15 * LONG), 3 * LONG)
        self.assertEqual(divisor(-(2 ** 5000), 6 ** 3000), 2 ** 3000)

    def test_of_all_pairs(self):
        for one in NUMBERS:
            for other in NUMBERS:
                found = divisor(one, other)
                self.assertEqual(found, math.gcd(one, other))
                self.assertIs(type(found), int)


class Ratio(Kinds):
    def test_lowest_terms(self):
        self.assertEqual(ratio(6, 4), (3, 2))
        self.assertEqual(ratio(3, 7), (3, 7))
        self.assertEqual(ratio(8, 2), (4, 1))

    def test_the_bottom_is_above_0(self):
        self.assertEqual(ratio(6, -4), (-3, 2))
        self.assertEqual(ratio(-6, 4), (-3, 2))
        self.assertEqual(ratio(-6, -4), (3, 2))

    def test_nought(self):
        for bottom in (1, -1, 7, -7, LONG):
            self.assertEqual(ratio(0, bottom), (0, 1))

    def test_many_figures(self):
        self.assertEqual(ratio(4 * LONG, -6 * LONG), (-2, 3))
        self.assertEqual(ratio(10 ** 6000, 10 ** 5999 * 3), (10, 3))

    def test_all_pairs(self):
        for top in NUMBERS:
            for bottom in NUMBERS:
                if bottom != 0:
                    found = ratio(top, bottom)
                    self.assert_fraction(found)
                    self.assertEqual(found, told(Fraction(top, bottom)))

    def test_a_bottom_of_0_is_refused(self):
        for top in NUMBERS:
            with self.assertRaises(NoNumber):
                ratio(top, 0)


class Reckoning(Kinds):
    def test_by_hand(self):
        self.assertEqual(plus((1, 6), (1, 3)), (1, 2))
        self.assertEqual(plus((1, 2), (-1, 2)), (0, 1))
        self.assertEqual(minus((1, 2), (1, 3)), (1, 6))
        self.assertEqual(minus((1, 3), (1, 2)), (-1, 6))
        self.assertEqual(minus((1, 3), (1, 3)), (0, 1))
        self.assertEqual(times((2, 3), (3, 4)), (1, 2))
        self.assertEqual(times((-2, 3), (0, 1)), (0, 1))
        self.assertEqual(over((2, 3), (4, 3)), (1, 2))
        self.assertEqual(over((1, 2), (-1, 3)), (-3, 2))
        self.assertEqual(over((0, 1), (-5, 3)), (0, 1))

    def test_all_pairs(self):
        values = [Fraction(top, bottom) for top in NUMBERS for bottom in (1, 2, 6, LONG)]
        for one in values:
            for other in values:
                self.check_pair(one, other)

    def check_pair(self, one, other):
        pairs = [
            (plus(told(one), told(other)), one + other),
            (minus(told(one), told(other)), one - other),
            (times(told(one), told(other)), one * other),
        ]
        if other != 0:
            pairs.append((over(told(one), told(other)), one / other))
        for found, wanted in pairs:
            self.assert_fraction(found)
            self.assertEqual(found, told(wanted))
        self.assertIs(below(told(one), told(other)), one < other)

    def test_a_quotient_by_0_is_refused(self):
        for one in ((0, 1), (1, 1), (-3, 7), (LONG, 2)):
            with self.assertRaises(NoNumber):
                over(one, (0, 1))


class Below(unittest.TestCase):
    def test_by_hand(self):
        self.assertIs(below((1, 3), (1, 2)), True)
        self.assertIs(below((1, 2), (1, 3)), False)
        self.assertIs(below((1, 2), (1, 2)), False)
        self.assertIs(below((-1, 2), (-1, 3)), True)
        self.assertIs(below((-1, 3), (-1, 2)), False)
        self.assertIs(below((-1, 2), (0, 1)), True)
        self.assertIs(below((0, 1), (0, 1)), False)

    def test_nothing_is_near(self):
        self.assertIs(below((LONG, LONG + 1), (LONG + 1, LONG + 2)), True)
        self.assertIs(below((LONG + 1, LONG + 2), (LONG, LONG + 1)), False)


if __name__ == "__main__":
    unittest.main()
