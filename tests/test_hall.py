import unittest

from spaces import GENERAL, LONG, SPACES, THROUGH_ONE, goes_on
from wallspace.errors import NoPlace, NoWall
from wallspace.hall import Hall
from wallspace.lands import lands
from wallspace.polynomials import by_lots
from wallspace.walls import wall

# Deeds in turn, each a list that is put in or a place that is taken out; refused ones among them.
DEEDS = {
    0: [[5], [0], 0, [-1], -1],
    1: [[1, 0], [-2, -2], 5, [3, 3], [0, 4], [LONG, 1], 0, [1, 0], -1, [1, 1], 3, 1, 1, 0, 0, [7, 7]],
    2: [[2, 0, 0], [0, -3, 3], [1, 1, 1], [-4, -4, -4], 1, 2, [0, 1, -1], [0, 0, 0], [1, 1, LONG], 0, [5, 5, 5], -2,
        [1, -1, 0], [-1, 1, 0], 0, 0, 0, 0, 0],
    3: [[1, 0, 0, 0], [0, 2, 0, 2], [0, 0, -3, 6], [1, 1, 1, 0], [0, 0, 0, 7], [-2, -2, -2, 0], [1, 1, 1, 1], 4, 3, 3,
        [1, -1, 0, 0], 1, 7, [0, 1, 0, 1]],
    4: [[1, 0, 0, 0, 0], [0, 1, 0, 0, 0], [0, 0, 1, 0, 0], [0, 0, 0, 1, 0], [2, 2, 2, 2, 2], [1, 1, 0, 0, LONG],
        [0, 0, 0, 0, 0], 1, [0, -6, 0, 0, 0], 0, 12],
}


def refusal_of(deed):
    """What refused a deed: its class and the place it keeps, or None."""
    try:
        told = deed()
    except NoWall as error:
        return NoWall, error.place
    except NoPlace:
        return NoPlace, None
    if told is not None:
        raise AssertionError("a deed tells None")
    return None


def wanted_refusal(kept, deed):
    """What ought to refuse a deed in a hall of these walls."""
    if isinstance(deed, int):
        return None if deed in range(len(kept)) else (NoPlace, None)
    if not any(deed[:-1]):
        return NoWall, 0
    return (NoWall, kept.index(wall(deed))) if wall(deed) in kept else None


def do(hall, deed):
    return refusal_of(lambda: hall.take(deed) if isinstance(deed, int) else hall.put(deed))


def do_beside(kept, deed):
    """Do a deed that is not refused to a plain list of walls."""
    if isinstance(deed, int):
        kept.pop(deed)
    else:
        kept.append(wall(deed))


def filled(ways, walls):
    hall = Hall(ways)
    for one in walls:
        hall.put(list(one))
    return hall


class HallCase(unittest.TestCase):
    def check_way(self, walls, signs, way):
        self.assertIs(type(way), tuple)
        self.assertEqual({type(number) for number in way}, {int})
        self.assertTrue(any(way))
        for one, sign in zip(walls, signs, strict=True):
            total = sum(number * step for number, step in zip(one[:-1], way, strict=True))
            self.assertGreaterEqual(sign * total, 0)

    def check_told(self, hall, ways, walls):
        self.assertEqual(hall.walls(), walls)
        self.assertEqual(hall.polynomial(), by_lots(ways, walls))
        self.assertEqual(hall.lands(), lands(ways, walls))
        found = hall.ways_out()
        self.assertIs(type(found), list)
        for (signs, point), way in zip(lands(ways, walls), found, strict=True):
            if way is not None:
                self.check_way(walls, signs, way)

    def check(self, hall, ways, walls):
        self.check_told(hall, ways, walls)
        wanted = [goes_on(ways, walls, signs) for signs, point in lands(ways, walls)]
        self.assertEqual([way is not None for way in hall.ways_out()], wanted)


class AHall(HallCase):
    def test_an_empty_one(self):
        for ways in range(5):
            hall = Hall(ways)
            self.assertEqual(hall.walls(), [])
            self.assertEqual(hall.polynomial(), [0] * ways + [1])
            self.assertEqual([signs for signs, point in hall.lands()], [()])
            self.check(hall, ways, [])
        self.assertEqual(Hall(0).lands(), [((), ())])
        self.assertEqual(Hall(0).ways_out(), [None])

    def test_by_hand(self):
        hall = filled(2, [(2, 0, 0), (0, -3, 0), (1, 1, 1)])
        self.assertEqual(hall.walls(), [(1, 0, 0), (0, 1, 0), (1, 1, 1)])
        self.assertEqual(hall.polynomial(), [3, -3, 1])
        self.assertEqual([signs for signs, point in hall.lands()], [
            (-1, -1, -1), (-1, 1, -1), (-1, 1, 1), (1, -1, -1), (1, -1, 1), (1, 1, -1), (1, 1, 1)])
        self.assertEqual([place for place, way in enumerate(hall.ways_out()) if way is None], [5])
        hall.take(0)
        self.assertEqual(hall.walls(), [(0, 1, 0), (1, 1, 1)])
        self.assertEqual(hall.polynomial(), [1, -2, 1])
        self.assertNotIn(None, hall.ways_out())
        hall.put([-1, 0, 0])
        self.assertEqual(hall.walls(), [(0, 1, 0), (1, 1, 1), (1, 0, 0)])

    def test_deeds_beside_a_plain_list(self):
        refused = 0
        for ways, deeds in DEEDS.items():
            hall = Hall(ways)
            kept = []
            for deed in deeds:
                wanted = wanted_refusal(kept, deed)
                self.assertEqual(do(hall, deed), wanted, (ways, deed))
                if wanted is None:
                    do_beside(kept, deed)
                else:
                    refused += 1
                self.check(hall, ways, kept)
        self.assertGreater(refused, 20)

    def test_all_spaces(self):
        for ways, walls in SPACES:
            hall = filled(ways, walls)
            self.check(hall, ways, walls)
            for place in range(len(walls)):
                hall.take(len(walls) - 1 - place)
            self.check(hall, ways, [])

    def test_twelve_walls(self):
        for walls, closed in ((GENERAL, 330), (THROUGH_ONE, 0)):
            hall = filled(4, walls)
            self.check_told(hall, 4, walls)
            self.assertEqual(hall.ways_out().count(None), closed)
            hall.take(11)
            hall.take(0)
            self.check_told(hall, 4, walls[1:11])
            hall.put([-3 * number for number in walls[0]])
            self.check_told(hall, 4, walls[1:11] + walls[:1])

    def test_many_figures(self):
        far = 10 ** 1000
        hall = filled(1, [(2, far), (far, far), (1, -far)])
        self.assertEqual(hall.walls(), [(1, far // 2), (1, 1), (1, -far)])
        self.check(hall, 1, [(1, far // 2), (1, 1), (1, -far)])

    def test_two_halls_by_turns(self):
        one = Hall(2)
        other = Hall(2)
        kept = {one: [], other: []}
        for deed in DEEDS[2]:
            for hall, turned in ((one, False), (other, True)):
                mine = [deed[1], deed[0], deed[2]] if turned and isinstance(deed, list) else deed
                wanted = wanted_refusal(kept[hall], mine)
                self.assertEqual(do(hall, mine), wanted)
                if wanted is None:
                    do_beside(kept[hall], mine)
                self.check(one, 2, kept[one])
                self.check(other, 2, kept[other])

    def test_two_halls_of_unlike_ways(self):
        one = Hall(1)
        other = Hall(3)
        one.put([1, 5])
        other.put([1, 5, 0, 0])
        one.put([1, 6])
        self.check(one, 1, [(1, 5), (1, 6)])
        self.check(other, 3, [(1, 5, 0, 0)])


class Refusals(HallCase):
    def assert_no_wall(self, hall, numbers, place):
        before = hall.walls()
        self.assertEqual(refusal_of(lambda: hall.put(numbers)), (NoWall, place))
        self.check(hall, len(numbers) - 1, before)

    def assert_no_place(self, hall, ways, place):
        before = hall.walls()
        self.assertEqual(refusal_of(lambda: hall.take(place)), (NoPlace, None))
        self.check(hall, ways, before)

    def test_all_numbers_of_the_ways_0(self):
        for ways in range(5):
            for last in (0, 1, -7, LONG):
                self.assert_no_wall(Hall(ways), [0] * ways + [last], 0)
        # Other walls that stand there already change nothing of the place that is kept.
        self.assert_no_wall(filled(2, [(1, 0, 0), (0, 1, 0)]), [0, 0, 3], 0)

    def test_in_the_space_of_no_ways_always(self):
        for last in (0, 1, -1, LONG):
            self.assert_no_wall(Hall(0), [last], 0)

    def test_a_wall_that_stands_there_already(self):
        walls = [(1, 0, 0), (0, 1, 3), (2, -3, 4), (1, 1, LONG)]
        hall = filled(2, walls)
        for place, one in enumerate(walls):
            for times in (1, 2, -1, -5, LONG, -LONG):
                self.assert_no_wall(hall, [times * number for number in one], place)
            self.assert_no_wall(hall, one, place)

    def test_its_place_is_the_one_where_it_stands_now(self):
        hall = filled(1, [(1, 0), (1, 1), (1, 2)])
        self.assert_no_wall(hall, [3, 6], 2)
        hall.take(0)
        self.assert_no_wall(hall, [3, 6], 1)
        hall.put([1, 0])
        self.assert_no_wall(hall, [-1, 0], 2)

    def test_a_wall_that_was_taken_out_may_be_put_in_again(self):
        hall = filled(1, [(1, 0), (1, 1)])
        hall.take(0)
        hall.put([-3, 0])
        self.check(hall, 1, [(1, 1), (1, 0)])

    def test_walls_that_are_nearly_alike_are_not_refused(self):
        walls = [(1, 0, 0), (1, 0, 1), (1, 0, -1), (1, 1, 0), (LONG, 1, 0), (LONG + 1, 1, 0)]
        self.check(filled(2, walls), 2, walls)

    def test_a_place_without_a_wall(self):
        for place in (0, 1, -1, 12, LONG, -LONG, 10 ** 6000):
            self.assert_no_place(Hall(2), 2, place)
            self.assert_no_place(Hall(0), 0, place)
        hall = filled(2, [(1, 0, 0), (0, 1, 0), (1, 1, 1)])
        for place in (3, 4, 12, -1, -2, -3, -4, LONG, -LONG):
            self.assert_no_place(hall, 2, place)

    def test_more_than_twelve_are_not_refused_for_it(self):
        walls = [(1, last) for last in range(13)]
        self.check(filled(1, walls), 1, walls)


class WhoseListsTheyAre(HallCase):
    def test_a_told_list_that_is_changed(self):
        for ways, walls in SPACES:
            hall = filled(ways, walls)
            for ask in (hall.walls, hall.polynomial, hall.lands, hall.ways_out):
                first = ask()
                kept = list(first)
                first.append("mine")
                first[0] = "mine"
                self.assertEqual(ask(), kept)
                self.check(hall, ways, walls)

    def test_a_told_list_stays_when_the_hall_is_changed(self):
        hall = filled(2, [(1, 0, 0), (0, 1, 0), (1, 1, 1)])
        told = [hall.walls(), hall.polynomial(), hall.lands(), hall.ways_out()]
        kept = [list(one) for one in told]
        hall.take(1)
        hall.put([1, 2, 3])
        hall.put([1, 2, 4])
        self.assertEqual(told, kept)

    def test_a_list_handed_in_that_is_changed(self):
        hall = Hall(2)
        numbers = [1, 0, 0]
        hall.put(numbers)
        numbers[1] = 5
        self.check(hall, 2, [(1, 0, 0)])
        hall.put(numbers)
        numbers.clear()
        self.check(hall, 2, [(1, 0, 0), (1, 5, 0)])

    def test_what_is_handed_in_stays(self):
        hall = Hall(2)
        for numbers in ([-2, 4, 6], [2, -4, -6], [0, 0, 4]):
            kept = list(numbers)
            refusal_of(lambda: hall.put(numbers))
            self.assertEqual(numbers, kept)


if __name__ == "__main__":
    unittest.main()
