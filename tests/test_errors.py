import unittest

from wallspace import errors
from wallspace.errors import NoFace, NoLand, NoNumber, NoPlace, NoWall, WallError
from wallspace.faces import borders, corners, put_ahead
from wallspace.hall import Hall
from wallspace.lands import way_out
from wallspace.ratios import over, ratio
from wallspace.walks import between, walk
from wallspace.walls import looked, wall

REFUSALS = (NoNumber, NoLand, NoFace, NoPlace, NoWall)


class TheClasses(unittest.TestCase):
    def test_any_refusal_stands_under_value_error(self):
        self.assertEqual(WallError.__bases__, (ValueError,))

    def test_each_refusal_stands_straight_under_wall_error(self):
        for refusal in REFUSALS:
            self.assertEqual(refusal.__bases__, (WallError,), refusal)

    def test_they_have_their_names(self):
        for name in ("WallError", "NoNumber", "NoLand", "NoFace", "NoPlace", "NoWall"):
            self.assertEqual(getattr(errors, name).__name__, name)

    def test_no_wall_keeps_its_place(self):
        for place in (0, 1, 11, 10 ** 40, 10 ** 6000):
            self.assertEqual(NoWall(place).place, place)
        self.assertEqual(NoWall(place=3).place, 3)

    def test_each_no_wall_keeps_its_own_place(self):
        one = NoWall(1)
        other = NoWall(2)
        self.assertEqual((one.place, other.place), (1, 2))


class EachRefusal(unittest.TestCase):
    def check(self, expected, deed):
        for caught_as in (expected, WallError, ValueError):
            try:
                deed()
            except caught_as as error:
                self.assertIs(type(error), expected)
                for other in REFUSALS:
                    self.assertEqual(isinstance(error, other), other is expected)
            else:
                self.fail("not refused")

    def test_a_bottom_of_0(self):
        self.check(NoNumber, lambda: ratio(1, 0))

    def test_a_quotient_by_0(self):
        self.check(NoNumber, lambda: over((1, 2), (0, 1)))

    def test_numbers_that_make_no_wall(self):
        self.check(NoWall, lambda: wall([0, 0, 1]))

    def test_walls_that_may_not_stand(self):
        self.check(NoWall, lambda: looked(1, [(1, 0), (1, 0)]))

    def test_a_way_out_of_no_land(self):
        self.check(NoLand, lambda: way_out(1, [(1, 0), (1, 1)], (-1, 1)))
        self.check(NoLand, lambda: way_out(1, [(1, 0), (1, 1)], (1,)))

    def test_walls_between_no_lands(self):
        self.check(NoLand, lambda: between(1, [(1, 0), (1, 1)], (-1, 1), (1, 1)))
        self.check(NoLand, lambda: between(1, [(1, 0), (1, 1)], (1, 1), (-1, 1)))

    def test_a_walk_between_no_lands(self):
        self.check(NoLand, lambda: walk(1, [(1, 0), (1, 1)], (-1, 1), (1, 1)))
        self.check(NoLand, lambda: walk(1, [(1, 0), (1, 1)], (1, 1), (-1, 1)))

    def test_a_face_put_ahead_of_another_one(self):
        self.check(NoFace, lambda: put_ahead(1, [(1, 0), (1, 1)], (-1, 0), (1, 1)))
        self.check(NoFace, lambda: put_ahead(1, [(1, 0), (1, 1)], (1, 1), (0, 0)))
        self.check(NoFace, lambda: put_ahead(1, [(1, 0), (1, 1)], (1, 1), (1,)))

    def test_borders_and_corners_of_no_land(self):
        for deed in (borders, corners):
            self.check(NoLand, lambda: deed(1, [(1, 0), (1, 1)], (-1, 1)))
            self.check(NoLand, lambda: deed(1, [(1, 0), (1, 1)], (0, -1)))
            self.check(NoLand, lambda: deed(1, [(1, 0), (1, 1)], (1, 1, 1)))

    def test_a_wall_that_may_not_be_put_in(self):
        hall = Hall(1)
        hall.put([1, 0])
        self.check(NoWall, lambda: hall.put([0, 1]))
        self.check(NoWall, lambda: hall.put([-2, 0]))

    def test_a_place_where_no_wall_stands(self):
        hall = Hall(1)
        hall.put([1, 0])
        self.check(NoPlace, lambda: hall.take(1))
        self.check(NoPlace, lambda: hall.take(-1))


if __name__ == "__main__":
    unittest.main()
