import copy
import itertools
import unittest

from spaces import GENERAL, LONG, SPACES, THROUGH_ONE, TWELVE, all_lots, solved
from wallspace.polynomials import by_ladder, by_lots, by_taking_out
from wallspace.rings import by_unbroken, rings, unbroken
from wallspace.walls import looked

# More walls with rings of each length in them, some of which stand apart from one another.
RINGED = [
    (2, [(1, 0, 0), (0, 1, 0), (1, 1, 0), (1, 0, 1), (1, -1, 1), (1, 1, 1)]),
    (2, [(1, 0, 0), (1, 0, 1), (0, 1, 0), (0, 1, 1), (1, 1, 1), (1, -1, 0), (1, 1, 0)]),
    (2, [(LONG, 1, 0), (1, LONG, 0), (1, 1, 0), (1, 1, LONG), (1, -1, 0)]),
    (3, [(1, 0, 0, 0), (0, 1, 0, 0), (0, 0, 1, 0), (1, 1, 1, 0), (1, 1, 0, 0), (1, 1, 1, 1), (0, 0, 1, 1)]),
    (3, [(1, 0, 0, 0), (0, 1, 0, 0), (1, 1, 0, 0), (1, -1, 0, 5), (0, 0, 1, 0), (1, 1, 1, 1)]),
    (4, [(1, 0, 0, 0, 0), (0, 1, 0, 0, 0), (0, 0, 1, 0, 0), (0, 0, 0, 1, 0), (1, 1, 1, 1, 0), (1, 1, 0, 0, 0),
         (1, 1, 1, 0, 0)]),
]
ALL = SPACES + RINGED


def rows_of(ways, walls, lot):
    return solved(ways, [walls[place] for place in lot])


def is_tied(ways, walls, lot):
    """Whether a lot has a point in common, and a part of more ways than the space's less its own walls."""
    rows = rows_of(ways, walls, lot)
    return rows is not None and ways - len(rows) > ways - len(lot)


def is_ring(ways, walls, lot):
    return is_tied(ways, walls, lot) and not any(
        is_tied(ways, walls, lot[:place] + lot[place + 1:]) for place in range(len(lot)))


def rings_of(ways, walls):
    return [lot for lot in all_lots(walls) if is_ring(ways, walls, lot)]


def unbroken_of(ways, walls):
    broken = [set(ring) - {min(ring)} for ring in rings_of(ways, walls)]
    met = [lot for lot in all_lots(walls) if rows_of(ways, walls, lot) is not None]
    return [lot for lot in met if not any(ring <= set(lot) for ring in broken)]


class Rings(unittest.TestCase):
    def test_without_walls(self):
        for ways in range(5):
            self.assertEqual(rings(ways, []), [])

    def test_two_walls_make_no_ring(self):
        for walls in ([(1, 0), (1, 1)], [(1, 0, 0), (0, 1, 0)], [(1, 0, 0), (1, 0, 1)], [(1, 2, 3, 4), (1, 2, 3, 5)]):
            self.assertEqual(rings(len(walls[0]) - 1, walls), [])

    def test_in_one_way_there_is_none(self):
        self.assertEqual(rings(1, [(1, 0), (1, 1), (2, 1), (3, -7)]), [])

    def test_through_one_point(self):
        walls = [(1, 0, 0), (0, 1, 0), (1, 1, 0), (1, -1, 0)]
        self.assertEqual(rings(2, walls), [[0, 1, 2], [0, 1, 3], [0, 2, 3], [1, 2, 3]])

    def test_without_a_point_in_common(self):
        self.assertEqual(rings(2, [(1, 0, 0), (0, 1, 0), (1, 1, 1)]), [])
        self.assertEqual(rings(2, [(1, 1, 0), (1, 1, 1), (1, 1, 2)]), [])
        self.assertEqual(rings(3, [(1, -1, 0, 1), (1, 0, -1, 1), (0, 1, -1, 1)]), [])

    def test_shorter_ones_first(self):
        # x, y, x + y, z and x + z: two rings of three walls, and one round both without x.
        walls = [(1, 0, 0, 0), (0, 1, 0, 0), (0, 0, 1, 0), (1, 1, 0, 0), (1, 0, 1, 0)]
        self.assertEqual(rings(3, walls), [[0, 1, 3], [0, 2, 4], [1, 2, 3, 4]])
        # Here the ring of four stands ahead in the order of lists, but is told behind the shorter one.
        walls = [(1, 0, 0, 0), (0, 1, 0, 0), (0, 0, 1, 0), (1, 1, 1, 0), (1, 1, 0, 0)]
        self.assertEqual(rings(3, walls), [[0, 1, 4], [2, 3, 4], [0, 1, 2, 3]])

    def test_a_ring_of_one_wall_more_than_the_ways(self):
        for ways in range(2, 5):
            walls = [tuple(int(place == way) for place in range(ways)) + (way,) for way in range(ways)]
            walls.append((1,) * ways + (sum(range(ways)),))
            self.assertEqual(rings(ways, walls), [list(range(ways + 1))])

    def test_in_general_places_there_is_none(self):
        self.assertEqual(rings(4, GENERAL), [])

    def test_rings_of_pairs_of_ways(self):
        # A ring round each three of the ways, and three round all four.
        walls = SPACES[19][1]
        wanted = [[0, 1, 3], [0, 2, 4], [1, 2, 5], [3, 4, 5], [0, 1, 4, 5], [0, 2, 3, 5], [1, 2, 3, 4]]
        self.assertEqual(rings(4, walls), wanted)

    def test_all_lots_one_by_one(self):
        for ways, walls in ALL:
            looked(ways, walls)
            self.assertEqual(rings(ways, walls), rings_of(ways, walls), (ways, walls))
            self.assertEqual(rings(ways, walls[::-1]), rings_of(ways, walls[::-1]), (ways, walls))

    def test_twelve_walls(self):
        found = rings(4, THROUGH_ONE)
        lots = [list(lot) for count in range(6) for lot in itertools.combinations(range(12), count)]
        self.assertEqual(found, [lot for lot in lots if is_ring(4, THROUGH_ONE, lot)])


class Unbroken(unittest.TestCase):
    def test_without_walls(self):
        for ways in range(5):
            self.assertEqual(unbroken(ways, []), [[]])

    def test_through_one_point(self):
        walls = [(1, 0, 0), (0, 1, 0), (1, 1, 0), (1, -1, 0)]
        # Broken are [1, 2], [1, 3], [2, 3].
        self.assertEqual(unbroken(2, walls), [[], [0], [1], [2], [3], [0, 1], [0, 2], [0, 3]])

    def test_without_a_point_in_common(self):
        self.assertEqual(unbroken(1, [(1, 0), (1, 1)]), [[], [0], [1]])
        self.assertEqual(unbroken(2, [(1, 1, 0), (1, 1, 1), (0, 1, 0)]), [[], [0], [1], [2], [0, 2], [1, 2]])

    def test_in_general_places(self):
        walls = [(1, 0, 0), (0, 1, 0), (1, 1, 1)]
        self.assertEqual(unbroken(2, walls), [[], [0], [1], [2], [0, 1], [0, 2], [1, 2]])
        lots = [list(lot) for count in range(5) for lot in itertools.combinations(range(12), count)]
        self.assertEqual(unbroken(4, GENERAL), lots)

    def test_a_longer_ring(self):
        # The ring of four breaks lots with all of the last three walls alone.
        walls = [(1, 0, 0, 0), (0, 1, 0, 0), (0, 0, 1, 0), (1, 1, 1, 0)]
        lots = [list(lot) for count in range(4) for lot in itertools.combinations(range(4), count)]
        lots.remove([1, 2, 3])
        self.assertEqual(unbroken(3, walls), lots)

    def test_all_lots_one_by_one(self):
        for ways, walls in ALL:
            self.assertEqual(unbroken(ways, walls), unbroken_of(ways, walls), (ways, walls))
            self.assertEqual(unbroken(ways, walls[::-1]), unbroken_of(ways, walls[::-1]), (ways, walls))

    def test_twelve_walls(self):
        found = unbroken(4, THROUGH_ONE)
        self.assertEqual(len(found), 192)
        self.assertEqual(found, sorted(found, key=lambda lot: (len(lot), lot)))
        broken = [set(ring[1:]) for ring in rings(4, THROUGH_ONE)]
        for lot in found:
            self.assertFalse(any(ring <= set(lot) for ring in broken))


class ByUnbroken(unittest.TestCase):
    def test_known_ones(self):
        self.assertEqual(by_unbroken(0, []), [1])
        self.assertEqual(by_unbroken(3, []), [0, 0, 0, 1])
        self.assertEqual(by_unbroken(1, [(1, 0), (1, 1)]), [-2, 1])
        self.assertEqual(by_unbroken(2, [(1, 1, 0), (1, 1, 1), (1, 1, 2)]), [0, -3, 1])
        self.assertEqual(by_unbroken(2, [(1, 0, 0), (0, 1, 0), (1, 1, 0), (1, -1, 0)]), [3, -4, 1])
        self.assertEqual(by_unbroken(4, GENERAL), [495, -220, 66, -12, 1])
        self.assertEqual(by_unbroken(4, THROUGH_ONE), [45, -84, 50, -12, 1])

    def test_alike_to_the_others(self):
        for ways, walls in ALL + TWELVE:
            for told_by in (by_ladder, by_lots, by_taking_out):
                self.assertEqual(by_unbroken(ways, walls), told_by(ways, walls), (told_by.__name__, ways, walls))

    def test_the_order_of_walls_does_not_count(self):
        for ways, walls in ALL + TWELVE:
            self.assertEqual(by_unbroken(ways, walls[::-1]), by_unbroken(ways, walls))


class AllThree(unittest.TestCase):
    def test_kinds(self):
        for ways, walls in ALL:
            for lots in (rings(ways, walls), unbroken(ways, walls)):
                self.assertIs(type(lots), list)
                for lot in lots:
                    self.assertIs(type(lot), list)
                    self.assertEqual([type(place) for place in lot], [int] * len(lot))
            found = by_unbroken(ways, walls)
            self.assertIs(type(found), list)
            self.assertEqual([type(number) for number in found], [int] * (ways + 1))

    def test_what_is_handed_in_stays(self):
        for ways, walls in ALL:
            kept = copy.deepcopy(walls)
            for deed in (rings, unbroken, by_unbroken):
                deed(ways, walls)
                self.assertEqual(walls, kept)

    def test_what_is_told_is_the_askers_own(self):
        for ways, walls in ALL:
            for deed in (rings, unbroken):
                first = deed(ways, walls)
                kept = copy.deepcopy(first)
                for place in range(len(first)):
                    first[place].append("mine")
                    self.assertEqual(first[place + 1:], kept[place + 1:])
                first.append("mine")
                self.assertEqual(deed(ways, walls), kept)
            first = by_unbroken(ways, walls)
            kept = list(first)
            first[0] = "mine"
            self.assertEqual(by_unbroken(ways, walls), kept)


if __name__ == "__main__":
    unittest.main()
