import copy
import unittest

from spaces import GENERAL, LONG, SPACES, THROUGH_ONE, TWELVE, all_lots, solved
from wallspace.polynomials import by_ladder, by_lots, by_taking_out, drawn_into, worth
from wallspace.walls import looked

TOLD_BY = (by_ladder, by_lots, by_taking_out)

# Each with its polynomial, reckoned by hand.
KNOWN = [
    (0, [], [1]),
    (1, [], [0, 1]),
    (2, [], [0, 0, 1]),
    (3, [], [0, 0, 0, 1]),
    (4, [], [0, 0, 0, 0, 1]),
    (1, [(1, 0)], [-1, 1]),
    (1, [(1, 0), (1, 1), (2, 1), (3, -7)], [-4, 1]),
    (2, [(0, 1, 5)], [0, -1, 1]),
    (2, [(1, 1, 0), (1, 1, 1), (1, 1, 2)], [0, -3, 1]),
    (2, [(1, 0, 0), (0, 1, 0), (1, 1, 0), (1, -1, 0)], [3, -4, 1]),
    (2, [(1, 0, 0), (0, 1, 0), (1, 1, 1)], [3, -3, 1]),
    (2, [(1, 0, 0), (1, 0, 1), (0, 1, 0), (0, 1, 1)], [4, -4, 1]),
    (2, [(LONG, 1, 2), (LONG, 1, 3), (1, LONG, 3)], [2, -3, 1]),
    (2, [(1, 1, 10 ** 500), (1, 1, 10 ** 500 + 1), (1, -1, 10 ** 500), (1, 0, 10 ** 500)], [4, -4, 1]),
    (3, [(1, 0, 0, 0), (0, 1, 0, 0), (0, 0, 1, 0)], [-1, 3, -3, 1]),
    (3, [(1, 0, 0, 0), (1, 0, 0, 1), (1, 0, 0, -1)], [0, 0, -3, 1]),
    # t (t - 1) (t - 2), and with the walls of the numbers 0 and 1 for each pair t (t - 3) (t - 3)
    (3, [(1, -1, 0, 0), (1, 0, -1, 0), (0, 1, -1, 0)], [0, 2, -3, 1]),
    (3, [(1, -1, 0, 0), (1, 0, -1, 0), (0, 1, -1, 0), (1, -1, 0, 1), (1, 0, -1, 1), (0, 1, -1, 1)], [0, 9, -6, 1]),
    # (t - 1) (t - 3) (t - 5)
    (3, [(1, 0, 0, 0), (0, 1, 0, 0), (0, 0, 1, 0), (1, 1, 0, 0), (1, -1, 0, 0), (1, 0, 1, 0), (1, 0, -1, 0),
         (0, 1, 1, 0), (0, 1, -1, 0)], [-15, 23, -9, 1]),
    (4, [(0, 0, 0, 1, 0)], [0, 0, 0, -1, 1]),
    (4, [(1, 0, 0, 0, 0), (0, 1, 0, 0, 0), (0, 0, 1, 0, 0), (0, 0, 0, 1, 0), (1, 1, 1, 1, 1)], [5, -10, 10, -5, 1]),
    # 1, 12, 66, 220 and 495 lots of none to four out of twelve
    (4, GENERAL, [495, -220, 66, -12, 1]),
    # (t - 1) (t - 3) (t - 3) (t - 5)
    (4, THROUGH_ONE, [45, -84, 50, -12, 1]),
]


def of_all_lots(ways, walls):
    """The polynomial, each lot asked on its own without the program."""
    numbers = [0] * (ways + 1)
    for lot in all_lots(walls):
        rows = solved(ways, [walls[place] for place in lot])
        if rows is not None:
            numbers[ways - len(rows)] += (-1) ** len(lot)
    return numbers


class Worth(unittest.TestCase):
    def test_at_0_it_is_what_is_taken_once(self):
        for polynomial in ([1], [0, 1], [7, 5, 3], [-4, 0, 0, 1]):
            self.assertEqual(worth(polynomial, 0), polynomial[0])

    def test_by_hand(self):
        self.assertEqual(worth([3, -3, 1], 1), 1)
        self.assertEqual(worth([3, -3, 1], 2), 1)
        self.assertEqual(worth([3, -3, 1], 10), 73)
        self.assertEqual(worth([5, 0, 0, 2], 3), 59)
        self.assertEqual(worth([1, 2, 3, 4, 5], 10), 54321)

    def test_below_0(self):
        self.assertEqual(worth([3, -3, 1], -1), 7)
        self.assertEqual(worth([0, 0, 0, 1], -2), -8)
        self.assertEqual(worth([1, 2, 3, 4, 5], -10), 46281)

    def test_one_number_is_worth_the_same_everywhere(self):
        for number in (0, 1, -1, LONG):
            self.assertEqual(worth([-6], number), -6)

    def test_many_figures(self):
        self.assertEqual(worth([1, LONG, 1], LONG), 1 + 2 * LONG ** 2)
        self.assertEqual(worth([0, 0, 1], -(10 ** 600)), 10 ** 1200)
        self.assertEqual(worth([LONG, -1], LONG), 0)

    def test_the_sum_of_the_powers(self):
        for polynomial in ([4], [2, -1], [495, -220, 66, -12, 1], [LONG, -LONG, 0, 5]):
            for number in (-LONG, -13, -1, 0, 1, 2, 17, LONG):
                wanted = sum(taken * number ** power for power, taken in enumerate(polynomial))
                self.assertEqual(worth(polynomial, number), wanted)
                self.assertIs(type(worth(polynomial, number)), int)

    def test_what_is_handed_in_stays(self):
        polynomial = [3, -3, 1]
        worth(polynomial, 5)
        self.assertEqual(polynomial, [3, -3, 1])


class ThePolynomial(unittest.TestCase):
    def test_known_ones(self):
        for ways, walls, wanted in KNOWN:
            looked(ways, walls)
            for told_by in TOLD_BY:
                self.assertEqual(told_by(ways, walls), wanted, (told_by.__name__, ways, walls))

    def test_the_order_of_walls_does_not_count(self):
        for ways, walls, wanted in KNOWN:
            for told_by in TOLD_BY:
                self.assertEqual(told_by(ways, walls[::-1]), wanted)

    def test_all_spaces(self):
        for ways, walls in SPACES:
            wanted = of_all_lots(ways, walls)
            for told_by in TOLD_BY:
                self.assertEqual(told_by(ways, walls), wanted, (told_by.__name__, ways, walls))

    def test_kinds(self):
        for ways, walls in SPACES + TWELVE:
            for told_by in TOLD_BY:
                found = told_by(ways, walls)
                self.assertIs(type(found), list)
                self.assertEqual([type(number) for number in found], [int] * (ways + 1))

    def test_what_is_handed_in_stays(self):
        for ways, walls in SPACES:
            kept = copy.deepcopy(walls)
            for told_by in TOLD_BY:
                told_by(ways, walls)
                self.assertEqual(walls, kept)

    def test_what_is_told_is_the_askers_own(self):
        for ways, walls in SPACES:
            for told_by in TOLD_BY:
                first = told_by(ways, walls)
                kept = list(first)
                first[0] = "mine"
                first.append("mine")
                self.assertEqual(told_by(ways, walls), kept)


class DrawnInto(unittest.TestCase):
    def test_by_hand(self):
        walls = [(1, 0, 0), (0, 1, 0), (1, 1, 1)]
        self.assertEqual(drawn_into(2, walls, 0), [(1, 0), (1, 1)])
        self.assertEqual(drawn_into(2, walls, 1), [(1, 0), (1, 1)])
        # On x + y = 1 the way y is left over: x = 0 is y = 1 there.
        self.assertEqual(drawn_into(2, walls, 2), [(1, 1), (1, 0)])

    def test_walls_that_become_alike_are_told_once_at_the_first_ones_place(self):
        walls = [(1, 0, 0), (0, 1, 5), (1, 1, 2), (2, 1, 5), (1, 3, 3), (7, 1, 2)]
        self.assertEqual(drawn_into(2, walls, 0), [(1, 5), (1, 2), (1, 1)])
        walls = [(0, 1, 5), (1, 1, 2), (2, 1, 5), (1, 0, 0), (1, 3, 3), (7, 1, 2)]
        self.assertEqual(drawn_into(2, walls, 3), [(1, 5), (1, 2), (1, 1)])
        self.assertEqual(drawn_into(2, walls[::-1], 2), [(1, 2), (1, 1), (1, 5)])
        through_one = [(1, -1, 0, 0), (1, 0, -1, 0), (0, 1, -1, 0)]
        self.assertEqual(drawn_into(3, through_one, 0), [(1, -1, 0)])

    def test_walls_that_do_not_meet_it_are_left_out(self):
        walls = [(1, 1, 4), (1, 1, 0), (0, 1, 0), (1, 1, 2)]
        self.assertEqual(drawn_into(2, walls, 0), [(1, 0)])
        self.assertEqual(drawn_into(2, walls, 2), [(1, 4), (1, 0), (1, 2)])
        self.assertEqual(drawn_into(2, [(1, 1, 4), (1, 1, 0)], 1), [])
        self.assertEqual(drawn_into(3, [(1, 2, 3, 0), (1, 2, 3, 1), (0, 0, 1, 0)], 0), [(0, 1, 0)])

    def test_walls_that_meet_it_apart_from_one_another(self):
        self.assertEqual(drawn_into(3, [(1, 0, 0, 0), (1, 1, 0, 0), (1, 1, 0, 1)], 0), [(1, 0, 0), (1, 0, 1)])

    def test_in_one_way_no_wall_meets_another(self):
        for place in range(3):
            self.assertEqual(drawn_into(1, [(1, 0), (1, 1), (2, 1)], place), [])

    def test_one_wall(self):
        for one in ((1, 0), (0, 1, 5), (1, 2, 3, 4), (0, 0, 0, 1, 0)):
            self.assertEqual(drawn_into(len(one) - 1, [one], 0), [])

    def test_a_wall_whose_first_numbers_are_0(self):
        self.assertEqual(drawn_into(2, [(0, 2, 1), (1, 1, 1)], 0), [(2, 1)])
        self.assertEqual(drawn_into(3, [(0, 0, 1, 3), (1, 2, 3, 4), (0, 1, 1, 3)], 0), [(1, 2, -5), (0, 1, 0)])
        # Here 2 y is 3 - z: the way y is left out, x and z stay.
        self.assertEqual(drawn_into(3, [(1, 1, 1, 1), (0, 2, 1, 3)], 1), [(2, 1, -1)])
        self.assertEqual(drawn_into(4, [(0, 0, 0, 1, 0), (1, 2, 3, 4, 5)], 0), [(1, 2, 3, 5)])

    def test_the_one_form(self):
        # On x + y = 0, x is 0 - y.
        walls = [(1, 1, 0), (1, 0, 0), (1, 0, 3), (1, -1, 2), (2, 0, 5)]
        self.assertEqual(drawn_into(2, walls, 0), [(1, 0), (1, -3), (1, -1), (2, -5)])
        self.assertEqual(drawn_into(3, [(2, 2, 1, 0), (1, 0, 0, 1)], 0), [(2, 1, -2)])

    def test_many_figures(self):
        self.assertEqual(drawn_into(2, [(1, LONG, 0), (1, 0, LONG ** 2)], 0), [(1, -LONG)])
        self.assertEqual(drawn_into(2, [(LONG, 1, 0), (0, LONG, 1)], 0), [(LONG, 1)])
        far = 10 ** 6000
        self.assertEqual(drawn_into(2, [(1, 1, far), (1, -1, far), (0, 1, far)], 0), [(1, 0), (1, far)])

    def test_the_points_on_both(self):
        for ways, walls in SPACES + TWELVE:
            for place in range(len(walls)):
                self.check_points(ways, walls, place)

    def check_points(self, ways, walls, place):
        into = walls[place]
        found = drawn_into(ways, walls, place)
        looked(ways - 1, found)
        lead = [at for at, number in enumerate(into) if number != 0][0]
        parts = [solved(ways, [into, other]) for other in walls[:place] + walls[place + 1:]]
        wanted = []
        for part in parts:
            if part is not None and part not in wanted:
                wanted.append(part)
        # A drawn wall, with 0 for the way that was left out, meets the one in the same points.
        self.assertEqual([solved(ways, [into, one[:lead] + (0,) + one[lead:]]) for one in found], wanted)

    def test_taking_out_any_wall(self):
        for ways, walls in SPACES:
            for place in range(len(walls)):
                within = drawn_into(ways, walls, place)
                without = walls[:place] + walls[place + 1:]
                for told_by in TOLD_BY:
                    less = told_by(ways - 1, within) + [0]
                    wanted = [one - other for one, other in zip(told_by(ways, without), less)]
                    self.assertEqual(told_by(ways, walls), wanted)

    def test_kinds(self):
        for ways, walls in SPACES:
            for place in range(len(walls)):
                found = drawn_into(ways, walls, place)
                self.assertIs(type(found), list)
                for one in found:
                    self.assertIs(type(one), tuple)
                    self.assertEqual([type(number) for number in one], [int] * ways)

    def test_what_is_handed_in_stays(self):
        for ways, walls in SPACES:
            kept = copy.deepcopy(walls)
            for place in range(len(walls)):
                drawn_into(ways, walls, place)
                self.assertEqual(walls, kept)

    def test_what_is_told_is_the_askers_own(self):
        for ways, walls in SPACES:
            for place in range(len(walls)):
                first = drawn_into(ways, walls, place)
                kept = list(first)
                first.append("mine")
                self.assertEqual(drawn_into(ways, walls, place), kept)


if __name__ == "__main__":
    unittest.main()
