"""Arguments that make no polygon: the index that BadPolygon names."""

import unittest

from tests.samples import SIDES, simple_points
from walkagon.errors import BadPolygon
from walkagon.shapes.polygons import Polygon

PAIRS = tuple((index, -index) for index in range(12))
NO_PAIRS = ((), (4,), (1, 2, 3))


class WrongPolygonTest(unittest.TestCase):
    def assert_bad(self, points, index):
        with self.subTest(points=points):
            with self.assertRaises(BadPolygon) as caught:
                Polygon(*points)
            self.assertEqual(caught.exception.index, index)

    def test_allowed_numbers_of_joints(self):
        for sides in SIDES:
            self.assertEqual(Polygon(*PAIRS[:sides]).points, PAIRS[:sides])

    def test_too_few_arguments(self):
        for count in range(3):
            self.assert_bad(PAIRS[:count], count)

    def test_too_many_arguments(self):
        for count in range(9, 13):
            self.assert_bad(PAIRS[:count], 8)

    def test_no_pair_at_each_place(self):
        for count in range(1, 13):
            for wrong in NO_PAIRS:
                for index in range(count):
                    points = PAIRS[:index] + (wrong,) + PAIRS[index + 1:count]
                    self.assert_bad(points, min(index, 8))

    def test_two_that_are_no_pairs(self):
        for count in range(2, 11):
            for second in range(1, count):
                for first in range(second):
                    points = list(PAIRS[:count])
                    points[first], points[second] = (1, 2, 3), (4,)
                    self.assert_bad(points, min(first, 8))

    def test_the_index_is_an_integer(self):
        with self.assertRaises(BadPolygon) as caught:
            Polygon((0, 0), (1, 1))
        self.assertIs(type(caught.exception.index), int)

    def test_a_flawless_polygon_after_an_error(self):
        self.assert_bad(PAIRS[:9], 8)
        self.assertEqual(len(Polygon(*simple_points(8))), 8)


if __name__ == "__main__":
    unittest.main()
