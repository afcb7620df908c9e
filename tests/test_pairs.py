import copy
import itertools
import unittest
from fractions import Fraction

from spaces import LONG
from wallspace.lands import lands
from wallspace.pairs import of_pairs, runnings
from wallspace.polynomials import by_ladder, worth
from wallspace.ratios import plus, ratio
from wallspace.walls import looked, side

# Some pairs of ways, each two of them at most once, one way round or the other.
GRAPHS = [
    (0, []),
    (1, []),
    (2, []),
    (2, [(0, 1)]),
    (2, [(1, 0)]),
    (3, [(0, 1), (1, 2)]),
    (3, [(2, 1), (0, 2), (1, 0)]),
    (3, [(0, 1), (0, 2), (1, 2)]),
    (4, []),
    (4, [(3, 0)]),
    (4, [(0, 1), (3, 2)]),
    (4, [(0, 1), (1, 2), (2, 3), (3, 0)]),
    (4, [(0, 3), (1, 3), (2, 3)]),
    (4, [(2, 0), (0, 1), (1, 2), (3, 1)]),
    (4, [(0, 1), (2, 0), (0, 3), (2, 1), (3, 1)]),
    (4, [(0, 1), (0, 2), (0, 3), (1, 2), (1, 3), (2, 3)]),
    (4, [(3, 2), (1, 3), (2, 1), (3, 0), (0, 2), (1, 0)]),
]


def leads_round(ways, running):
    """Whether one can go from pair to pair for ever: whether some ways stay when those without a way out go."""
    left = set(range(ways))
    while True:
        ends = {way for way in left if not any(one == way and other in left for one, other in running)}
        if not ends:
            return bool(left)
        left -= ends


def runnings_of(ways, pairs):
    """All turnings of the pairs, one by one, that lead round nowhere, in the order of lists."""
    found = []
    for turns in itertools.product((False, True), repeat=len(pairs)):
        running = [pair[::-1] if turn else pair for pair, turn in zip(pairs, turns)]
        if not leads_round(ways, running):
            found.append(running)
    return sorted(found)


class OfPairs(unittest.TestCase):
    def test_no_pairs(self):
        for ways in range(5):
            self.assertEqual(of_pairs(ways, []), [])

    def test_one_pair(self):
        self.assertEqual(of_pairs(2, [(0, 1, 0)]), [(1, -1, 0)])
        self.assertEqual(of_pairs(2, [(0, 1, 5)]), [(1, -1, 5)])
        self.assertEqual(of_pairs(2, [(0, 1, -5)]), [(1, -1, -5)])
        self.assertEqual(of_pairs(4, [(1, 3, 2)]), [(0, 1, 0, -1, 2)])

    def test_the_one_form(self):
        self.assertEqual(of_pairs(2, [(1, 0, 0)]), [(1, -1, 0)])
        self.assertEqual(of_pairs(2, [(1, 0, 5)]), [(1, -1, -5)])
        self.assertEqual(of_pairs(3, [(2, 0, -4)]), [(1, 0, -1, 4)])
        self.assertEqual(of_pairs(4, [(3, 2, 7)]), [(0, 0, 1, -1, -7)])

    def test_the_lists_order(self):
        pairs = [(1, 2, 0), (0, 1, 3), (2, 0, 1), (0, 1, -3)]
        wanted = [(0, 1, -1, 0), (1, -1, 0, 3), (1, 0, -1, -1), (1, -1, 0, -3)]
        self.assertEqual(of_pairs(3, pairs), wanted)
        self.assertEqual(of_pairs(3, pairs[::-1]), wanted[::-1])

    def test_alike_ones_once_at_the_first_ones_place(self):
        pairs = [(0, 1, 2), (0, 2, 1), (1, 0, -2), (1, 2, 0), (0, 2, 1), (2, 1, 0), (2, 0, 1)]
        wanted = [(1, -1, 0, 2), (1, 0, -1, 1), (0, 1, -1, 0), (1, 0, -1, -1)]
        self.assertEqual(of_pairs(3, pairs), wanted)
        self.assertEqual(of_pairs(2, [(1, 0, 0), (0, 1, 0)]), [(1, -1, 0)])

    def test_other_numbers_make_other_walls(self):
        self.assertEqual(of_pairs(2, [(0, 1, 2), (1, 0, 2)]), [(1, -1, 2), (1, -1, -2)])

    def test_many_figures(self):
        far = 10 ** 6000
        self.assertEqual(of_pairs(2, [(0, 1, LONG), (1, 0, far)]), [(1, -1, LONG), (1, -1, -far)])
        self.assertEqual(of_pairs(3, [(2, 1, -far), (1, 2, far)]), [(0, 1, -1, far)])

    def test_each_two_ways(self):
        for ways in range(2, 5):
            for one, other in itertools.permutations(range(ways), 2):
                for last in (0, 1, -3, LONG, -LONG):
                    found = of_pairs(ways, [(one, other, last)])
                    looked(ways, found)
                    self.assertEqual(found, of_pairs(ways, [(other, one, -last)]))
                    point = [ratio(way * 10 + 1, 7) for way in range(ways)]
                    point[one] = plus(point[other], (last, 1))
                    self.assertEqual(side(found[0], tuple(point)), 0)
                    point[one] = plus(point[one], (1, 7))
                    self.assertNotEqual(side(found[0], tuple(point)), 0)

    def test_twelve_pairs(self):
        pairs = [(one, other, last) for last in (0, 1) for one, other in itertools.combinations(range(4), 2)]
        found = of_pairs(4, pairs)
        looked(4, found)
        self.assertEqual(len(found), 12)
        # t (t - 4) (t - 4) (t - 4)
        self.assertEqual(by_ladder(4, found), [0, -64, 48, -12, 1])

    def test_kinds(self):
        found = of_pairs(3, [(0, 1, 2), (2, 0, -1)])
        self.assertIs(type(found), list)
        for one in found:
            self.assertIs(type(one), tuple)
            self.assertEqual([type(number) for number in one], [int] * 4)

    def test_what_is_handed_in_stays(self):
        pairs = [(0, 1, 2), (1, 0, -2), (2, 0, 1)]
        of_pairs(3, pairs)
        self.assertEqual(pairs, [(0, 1, 2), (1, 0, -2), (2, 0, 1)])

    def test_what_is_told_is_the_askers_own(self):
        pairs = [(0, 1, 2), (2, 0, 1)]
        first = of_pairs(3, pairs)
        kept = list(first)
        first.clear()
        self.assertEqual(of_pairs(3, pairs), kept)


class Runnings(unittest.TestCase):
    def test_no_pairs(self):
        for ways in range(5):
            self.assertEqual(runnings(ways, []), [[]])

    def test_one_pair(self):
        for pair in ((0, 1), (1, 0)):
            self.assertEqual(runnings(2, [pair]), [[(0, 1)], [(1, 0)]])

    def test_the_pairs_stand_in_the_lists_order(self):
        wanted = [[(0, 1), (1, 2)], [(0, 1), (2, 1)], [(1, 0), (1, 2)], [(1, 0), (2, 1)]]
        self.assertEqual(runnings(3, [(0, 1), (1, 2)]), wanted)
        self.assertEqual(runnings(3, [(1, 0), (1, 2)]), wanted)
        wanted = [[(1, 2), (0, 1)], [(1, 2), (1, 0)], [(2, 1), (0, 1)], [(2, 1), (1, 0)]]
        self.assertEqual(runnings(3, [(2, 1), (0, 1)]), wanted)

    def test_none_leads_round(self):
        wanted = [
            [(0, 1), (0, 2), (1, 2)],
            [(0, 1), (0, 2), (2, 1)],
            [(0, 1), (2, 0), (2, 1)],
            [(1, 0), (0, 2), (1, 2)],
            [(1, 0), (2, 0), (1, 2)],
            [(1, 0), (2, 0), (2, 1)],
        ]
        self.assertEqual(runnings(3, [(0, 1), (0, 2), (1, 2)]), wanted)

    def test_all_turnings_one_by_one(self):
        for ways, pairs in GRAPHS:
            for order in (pairs, pairs[::-1]):
                self.assertEqual(runnings(ways, order), runnings_of(ways, order), (ways, order))

    def test_each_pair_leads_from_the_lesser_number_to_the_greater_one(self):
        for ways, pairs in GRAPHS:
            walls = of_pairs(ways, [pair + (0,) for pair in pairs])
            wanted = []
            for signs, point in lands(ways, walls):
                order = sorted(range(ways), key=lambda way: Fraction(*point[way]))
                turned = [sorted(pair, key=order.index) for pair in pairs]
                wanted.append([tuple(pair) for pair in turned])
            self.assertEqual(runnings(ways, pairs), sorted(wanted))

    def test_as_many_as_there_are_lands(self):
        for ways, pairs in GRAPHS:
            walls = of_pairs(ways, [pair + (0,) for pair in pairs])
            found = runnings(ways, pairs)
            self.assertEqual(len(found), len(lands(ways, walls)))
            self.assertEqual(len(found), abs(worth(by_ladder(ways, walls), -1)))

    def test_kinds(self):
        for ways, pairs in GRAPHS:
            found = runnings(ways, pairs)
            self.assertIs(type(found), list)
            for running in found:
                self.assertIs(type(running), list)
                self.assertEqual([type(pair) for pair in running], [tuple] * len(pairs))

    def test_what_is_handed_in_stays(self):
        for ways, pairs in GRAPHS:
            kept = copy.deepcopy(pairs)
            runnings(ways, pairs)
            self.assertEqual(pairs, kept)

    def test_what_is_told_is_the_askers_own(self):
        for ways, pairs in GRAPHS:
            first = runnings(ways, pairs)
            kept = copy.deepcopy(first)
            for place in range(len(first)):
                first[place].append("mine")
                self.assertEqual(first[place + 1:], kept[place + 1:])
            first.clear()
            self.assertEqual(runnings(ways, pairs), kept)
            self.assertNotIn("mine", pairs)


if __name__ == "__main__":
    unittest.main()
