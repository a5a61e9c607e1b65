"""Polygons made from a joint and sticks."""

import unittest

from tests.samples import FAR, SIDES, all_samples
from walkagon.errors import BadPolygon, NotClosed
from walkagon.shapes.polygons import Polygon

START = (5, -5)
# Each beginning of this row that is used below closes by its last stick only.
OPEN = ((1, 2), (3, -1), (-2, 5), (7, 0), (0, 4), (1, 1), (-6, 2), (8, 8), (2, 2), (3, 3))


def closed(count):
    """So many sticks whose sum is (0, 0)."""
    first = OPEN[:count - 1]
    return first + ((-sum(x for x, _ in first), -sum(y for _, y in first)),)


class FromSticksTest(unittest.TestCase):
    def assert_bad_polygon(self, sticks, index):
        with self.subTest(sticks=sticks):
            with self.assertRaises(BadPolygon) as caught:
                Polygon.from_sticks(START, *sticks)
            self.assertEqual(caught.exception.index, index)

    def assert_not_closed(self, sticks, rest):
        with self.subTest(sticks=sticks):
            with self.assertRaises(NotClosed) as caught:
                Polygon.from_sticks(START, *sticks)
            self.assertEqual(caught.exception.rest, rest)
            self.assertIs(type(caught.exception.rest), tuple)

    def test_known_polygons(self):
        for start, sticks, points in (
                ((0, 0), ((1, 0), (0, 1), (-1, -1)), ((0, 0), (1, 0), (1, 1))),
                ((5, 5), ((1, 0), (0, 1), (-1, 0), (0, -1)), ((5, 5), (6, 5), (6, 6), (5, 6))),
                ((-2, 3), ((0, 0),) * 5, ((-2, 3),) * 5),
                ((FAR, -FAR), ((FAR, 0), (0, -FAR), (-FAR, FAR)),
                 ((FAR, -FAR), (2 * FAR, -FAR), (2 * FAR, -2 * FAR)))):
            polygon = Polygon.from_sticks(start, *sticks)
            self.assertIsInstance(polygon, Polygon)
            self.assertEqual(polygon.points, points)
            self.assertEqual(polygon.sticks, sticks)

    def test_closed_sticks(self):
        for count in SIDES:
            polygon = Polygon.from_sticks(START, *closed(count))
            self.assertEqual(len(polygon), count)
            self.assertEqual(polygon.points[0], START)
            self.assertEqual(polygon.sticks, closed(count))

    def test_the_sticks_of_a_polygon_give_it_again(self):
        for points in all_samples():
            polygon = Polygon(*points)
            self.assertEqual(Polygon.from_sticks(points[0], *polygon.sticks), polygon)
            self.assertEqual(Polygon.from_sticks((0, 0), *polygon.sticks),
                             polygon.moved((-points[0][0], -points[0][1])))

    def test_open_sticks(self):
        for count in SIDES:
            sticks = OPEN[:count]
            rest = (sum(x for x, _ in sticks), sum(y for _, y in sticks))
            self.assertNotEqual(rest, (0, 0))
            self.assert_not_closed(sticks, rest)

    def test_open_by_one(self):
        for count in SIDES:
            for index in range(count):
                for rest in ((1, 0), (0, 1), (-1, 0), (0, -1), (FAR, -FAR)):
                    sticks = list(closed(count))
                    sticks[index] = (sticks[index][0] + rest[0], sticks[index][1] + rest[1])
                    self.assert_not_closed(sticks, rest)

    def test_too_few_sticks(self):
        self.assert_bad_polygon((), 0)
        self.assert_bad_polygon(((0, 0),), 1)
        self.assert_bad_polygon(((1, 2),), 1)
        self.assert_bad_polygon(((1, 2), (-1, -2)), 2)
        self.assert_bad_polygon(((1, 2), (3, 4)), 2)

    def test_too_many_sticks(self):
        for count in (9, 10):
            self.assert_bad_polygon(closed(count), 8)
            self.assert_bad_polygon(OPEN[:count], 8)
            self.assert_bad_polygon(((0, 0),) * count, 8)

    def test_sticks_that_are_no_pairs(self):
        for count in range(1, 11):
            for sticks in (closed(count), OPEN[:count]):
                for wrong in ((), (0,), (7,), (0, 0, 0), (1, 2, 3)):
                    for index in range(count):
                        changed = sticks[:index] + (wrong,) + sticks[index + 1:]
                        self.assert_bad_polygon(changed, min(index, 8))

    def test_two_sticks_that_are_no_pairs(self):
        for second in range(1, 8):
            for first in range(second):
                sticks = list(OPEN[:8])
                sticks[first], sticks[second] = (1,), (1, 2, 3)
                self.assert_bad_polygon(sticks, first)


if __name__ == "__main__":
    unittest.main()
