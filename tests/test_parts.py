import copy
import itertools
import unittest

from spaces import LONG, SPACES, all_lots, solved
from wallspace.parts import common, ladder
from wallspace.walls import looked, wall


def holds(ways, outer, inner):
    """Whether the part of the outer rows holds that of the inner rows."""
    return solved(ways, inner + outer) == inner


class TheSpaces(unittest.TestCase):
    def test_all_are_walls(self):
        for ways, walls in SPACES:
            looked(ways, walls)


class Common(unittest.TestCase):
    def assert_rows(self, ways, rows):
        self.assertIs(type(rows), list)
        leads = []
        for row in rows:
            self.assertIs(type(row), tuple)
            self.assertEqual([type(number) for number in row], [int] * (ways + 1))
            self.assertEqual(wall(list(row)), row)
            leads.append([place for place, number in enumerate(row) if number != 0][0])
        self.assertEqual(leads, sorted(set(leads)))
        for place, row in enumerate(rows):
            for other, lead in enumerate(leads):
                if other != place:
                    self.assertEqual(row[lead], 0)

    def test_the_empty_lot(self):
        for ways, walls in SPACES:
            self.assertEqual(common(ways, walls, []), [])

    def test_one_wall(self):
        for ways, walls in SPACES:
            for place in range(len(walls)):
                self.assertEqual(common(ways, walls, [place]), [walls[place]])

    def test_several_walls(self):
        walls = [(1, 1, 3), (1, -1, 1), (1, 2, 4)]
        self.assertEqual(common(2, walls, [0, 1]), [(1, 0, 2), (0, 1, 1)])
        self.assertEqual(common(2, walls, [1, 2]), [(1, 0, 2), (0, 1, 1)])
        self.assertEqual(common(2, [(2, 0, 1), (0, 3, 2)], [0, 1]), [(2, 0, 1), (0, 3, 2)])
        self.assertEqual(common(2, [(1, 1, 0), (1, -1, 1)], [0, 1]), [(2, 0, 1), (0, 2, -1)])
        self.assertEqual(common(3, [(1, 1, 1, 6), (1, 1, 2, 9)], [0, 1]), [(1, 1, 0, 3), (0, 0, 1, 3)])

    def test_the_rows_stand_in_order_whatever_the_walls_order(self):
        walls = [(0, 0, 1, 3), (0, 1, 1, 5), (1, 1, 1, 6)]
        self.assertEqual(common(3, walls, [0, 1, 2]), [(1, 0, 0, 1), (0, 1, 0, 2), (0, 0, 1, 3)])
        self.assertEqual(common(3, walls, [0, 2]), [(1, 1, 0, 3), (0, 0, 1, 3)])

    def test_a_wall_that_holds_the_part_already(self):
        walls = [(1, 0, 0), (0, 1, 0), (1, 1, 0), (1, -1, 0)]
        for lot in all_lots(walls):
            if len(lot) > 1:
                self.assertEqual(common(2, walls, lot), [(1, 0, 0), (0, 1, 0)])

    def test_no_point_in_common(self):
        self.assertIsNone(common(1, [(1, 0), (1, 1)], [0, 1]))
        self.assertIsNone(common(2, [(1, 1, 0), (1, 1, 1)], [0, 1]))
        self.assertIsNone(common(2, [(1, 0, 0), (0, 1, 0), (1, 1, 1)], [0, 1, 2]))
        self.assertIsNone(common(3, [(1, -1, 0, 1), (1, 0, -1, 1), (0, 1, -1, 1)], [0, 1, 2]))
        self.assertIsNone(common(3, [(1, 0, 0, 0), (1, 0, 0, 1), (0, 1, 0, 0)], [0, 1, 2]))

    def test_many_figures(self):
        walls = [(LONG, 1, LONG), (1, LONG, 1)]
        self.assertEqual(common(2, walls, [0, 1]), [(1, 0, 1), (0, 1, 0)])
        far = 10 ** 6000
        self.assertEqual(common(2, [(1, 1, far), (1, -1, far)], [0, 1]), [(1, 0, far), (0, 1, 0)])

    def test_all_lots_of_all_spaces(self):
        for ways, walls in SPACES:
            for lot in all_lots(walls):
                found = common(ways, walls, lot)
                self.assertEqual(found, solved(ways, [walls[place] for place in lot]))
                if found is not None:
                    self.assert_rows(ways, found)

    def test_what_is_handed_in_stays(self):
        walls = [(0, 1, 2), (1, 1, 3), (1, 1, 4)]
        lot = [0, 1]
        for tried in (lot, [0, 1, 2], [], [1]):
            common(2, walls, tried)
        self.assertEqual(walls, [(0, 1, 2), (1, 1, 3), (1, 1, 4)])
        self.assertEqual(lot, [0, 1])

    def test_what_is_told_is_the_askers_own(self):
        walls = [(1, 0, 0), (0, 1, 0), (1, 1, 0)]
        for lot in ([], [0], [0, 1], [0, 1, 2]):
            first = common(2, walls, lot)
            kept = list(first)
            first.append("mine")
            self.assertEqual(common(2, walls, lot), kept)


class Ladder(unittest.TestCase):
    def test_without_walls(self):
        for ways in range(5):
            self.assertEqual(ladder(ways, []), [([], [], 1)])

    def test_one_wall(self):
        for one in ((1, 0), (2, 3), (1, -2, 5), (0, 0, 1, 4), (1, 2, 3, 4, 5)):
            wanted = [([], [], 1), ([0], [one], -1)]
            self.assertEqual(ladder(len(one) - 1, [one]), wanted)

    def test_side_by_side(self):
        walls = [(1, 1, 4), (1, 1, 0), (1, 1, 2)]
        wanted = [([], [], 1)] + [([place], [walls[place]], -1) for place in range(3)]
        self.assertEqual(ladder(2, walls), wanted)
        self.assertEqual(
            ladder(1, [(1, 1), (1, 0)]),
            [([], [], 1), ([0], [(1, 1)], -1), ([1], [(1, 0)], -1)],
        )

    def test_through_one_point(self):
        walls = [(1, -1, 0), (0, 1, 0), (1, 0, 0), (1, 1, 0)]
        wanted = [([], [], 1)] + [([place], [walls[place]], -1) for place in range(4)]
        wanted.append(([0, 1, 2, 3], [(1, 0, 0), (0, 1, 0)], 3))
        self.assertEqual(ladder(2, walls), wanted)

    def test_in_general_places(self):
        wanted = [
            ([], [], 1),
            ([0], [(1, 0, 0)], -1),
            ([1], [(0, 1, 0)], -1),
            ([2], [(1, 1, 1)], -1),
            ([0, 1], [(1, 0, 0), (0, 1, 0)], 1),
            ([0, 2], [(1, 0, 0), (0, 1, 1)], 1),
            ([1, 2], [(1, 0, 1), (0, 1, 0)], 1),
        ]
        self.assertEqual(ladder(2, [(1, 0, 0), (0, 1, 0), (1, 1, 1)]), wanted)

    def test_the_order_of_lists_of_places(self):
        # Through one point stand 0, 2 and 3; the longer list comes where its numbers put it.
        walls = [(1, 0, 0), (1, 0, 1), (0, 1, 0), (1, 1, 0)]
        found = [places for places, rows, sign in ladder(2, walls)]
        self.assertEqual(found, [[], [0], [1], [2], [3], [0, 2, 3], [1, 2], [1, 3]])

    def test_planes_in_space(self):
        walls = [(1, -1, 0, 0), (1, 0, -1, 0), (0, 1, -1, 0), (0, 0, 1, 0)]
        wanted = [
            ([], [], 1),
            ([0], [(1, -1, 0, 0)], -1),
            ([1], [(1, 0, -1, 0)], -1),
            ([2], [(0, 1, -1, 0)], -1),
            ([3], [(0, 0, 1, 0)], -1),
            ([0, 1, 2], [(1, 0, -1, 0), (0, 1, -1, 0)], 2),
            ([0, 3], [(1, -1, 0, 0), (0, 0, 1, 0)], 1),
            ([1, 3], [(1, 0, 0, 0), (0, 0, 1, 0)], 1),
            ([2, 3], [(0, 1, 0, 0), (0, 0, 1, 0)], 1),
            ([0, 1, 2, 3], [(1, 0, 0, 0), (0, 1, 0, 0), (0, 0, 1, 0)], -2),
        ]
        self.assertEqual(ladder(3, walls), wanted)

    def test_like_numbers_in_four_ways(self):
        walls = SPACES[19][1]
        found = ladder(4, walls)
        self.assertEqual([len(rows) for places, rows, sign in found], [0] + [1] * 6 + [2] * 7 + [3])
        self.assertEqual(
            found[-1],
            ([0, 1, 2, 3, 4, 5], [(1, 0, 0, -1, 0), (0, 1, 0, -1, 0), (0, 0, 1, -1, 0)], -6),
        )

    def test_twelve_walls_in_general_places(self):
        walls = [(1, t, t ** 2, t ** 3, t ** 4) for t in range(-5, 7)]
        found = ladder(4, walls)
        lots = [list(lot) for count in range(5) for lot in itertools.combinations(range(12), count)]
        self.assertEqual([places for places, rows, sign in found], lots)
        for places, rows, sign in found:
            self.assertEqual(len(rows), len(places))
            self.assertEqual(sign, (-1) ** len(places))

    def test_all_spaces_by_their_lots(self):
        for ways, walls in SPACES:
            found = ladder(ways, walls)
            self.assertEqual(found, self.by_lots(ways, walls))

    def by_lots(self, ways, walls):
        # The sign of a part is also what its lots count, 1 of an even count and -1 of an odd one.
        signs = {}
        for lot in all_lots(walls):
            rows = solved(ways, [walls[place] for place in lot])
            if rows is not None:
                signs[tuple(rows)] = signs.get(tuple(rows), 0) + (-1) ** len(lot)
        told = []
        for key, sign in signs.items():
            rows = list(key)
            places = [place for place, one in enumerate(walls) if holds(ways, [one], rows)]
            told.append((places, rows, sign))
        return sorted(told, key=lambda rung: (len(rung[1]), rung[0]))

    def test_signs_as_they_are_told(self):
        for ways, walls in SPACES:
            found = ladder(ways, walls)
            self.assertEqual(found[0], ([], [], 1))
            for places, rows, sign in found[1:]:
                above = [other[2] for other in found if other[1] != rows and holds(ways, other[1], rows)]
                self.assertEqual(sign, 0 - sum(above))

    def test_kinds(self):
        for ways, walls in SPACES:
            found = ladder(ways, walls)
            self.assertIs(type(found), list)
            for rung in found:
                self.assertIs(type(rung), tuple)
                self.assertEqual([type(value) for value in rung], [list, list, int])
                self.assertEqual({type(row) for row in rung[1]} | {tuple}, {tuple})

    def test_what_is_handed_in_stays(self):
        for ways, walls in SPACES:
            kept = copy.deepcopy(walls)
            ladder(ways, walls)
            self.assertEqual(walls, kept)

    def test_what_is_told_is_the_askers_own(self):
        for ways, walls in SPACES:
            first = ladder(ways, walls)
            kept = copy.deepcopy(first)
            for place in range(len(first)):
                first[place][0].append("mine")
                self.assertEqual(first[place + 1:], kept[place + 1:])
                first[place][1].append("mine")
                self.assertEqual(first[place + 1:], kept[place + 1:])
            first.clear()
            self.assertEqual(ladder(ways, walls), kept)


if __name__ == "__main__":
    unittest.main()
