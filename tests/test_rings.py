"""All polygons that few flips reach: `reached` and `ring_sizes`."""

import unittest
from random import Random

from tests.corners import SMALL_SHAPES, any_shape
from tests.goals import starts
from tests.samples import FAR, SIDES, far_points, few_sticks_points, one_point, simple_points
from tests.search import rings_around
from walkagon.errors import TooMany
from walkagon.least import rings
from walkagon.least.numbers import least_flips
from walkagon.least.rings import LIMIT, reached, ring_sizes
from walkagon.shapes.polygons import Polygon

MOST = 5000


def shapes():
    maker = Random(171)
    return starts()[::3] + [Polygon(*kind(maker, sides)) for sides in SIDES
                            for kind in (far_points, few_sticks_points, one_point) for _ in range(2)]


def wide_shapes():
    """A few of each kind, for the search that goes far."""
    maker = Random(172)
    found = [Polygon(*shape) for shape in SMALL_SHAPES[::2]] + [any_shape(maker, 4, FAR)]
    return found + [Polygon(*kind(maker, sides)) for sides in SIDES
                    for kind in (lambda _, count: simple_points(count), few_sticks_points, one_point)]


class ReachedTest(unittest.TestCase):
    def test_each_ring_in_order(self):
        for polygon in shapes():
            rings_there = rings_around(polygon.points, 4)
            for radius in range(5):
                with self.subTest(polygon=polygon, radius=radius):
                    found = list(reached(polygon, radius))
                    self.assertEqual([other.points for other in found],
                                     [points for ring in rings_there[:radius + 1] for points in ring])
                    for other in found:
                        self.assertIs(type(other), Polygon)

    def test_each_polygon_once(self):
        for polygon in shapes():
            found = [other.points for other in reached(polygon, 4)]
            self.assertEqual(len(found), len(set(found)))
            self.assertEqual(found[0], polygon.points)

    def test_radius_zero(self):
        for polygon in shapes():
            self.assertEqual(list(reached(polygon, 0)), [polygon])

    def test_the_least_numbers_ascend(self):
        for shape in SMALL_SHAPES:
            start = Polygon(*shape)
            keys = [(least_flips(start, other), other.points) for other in reached(start, 4)]
            self.assertEqual(keys, sorted(keys))
            self.assertEqual(keys[-1][0], 4)

    def test_one_point(self):
        for sides in SIDES:
            point = Polygon(*((4, -4),) * sides)
            self.assertEqual(list(reached(point, 4)), [point])
            self.assertEqual(ring_sizes(point, 10, limit=1), (1,) + (0,) * 10)

    def test_two_at_once(self):
        """What one loop reads does not touch the other."""
        first, second = Polygon(*simple_points(3)), Polygon(*simple_points(4))
        expected = list(zip(list(reached(first, 3)), list(reached(second, 3))))
        self.assertEqual(list(zip(reached(first, 3), reached(second, 3))), expected)

    def test_by_name(self):
        polygon = Polygon(*simple_points(5))
        self.assertEqual(list(reached(radius=2, polygon=polygon)), list(reached(polygon, 2)))
        self.assertEqual(ring_sizes(radius=2, polygon=polygon, limit=100), ring_sizes(polygon, 2))
        self.assertEqual(polygon.points, simple_points(5))

    def test_defined_in_its_file(self):
        for function in (reached, ring_sizes):
            self.assertEqual(function.__module__, "walkagon.least.rings")
        self.assertEqual(rings.LIMIT, 3000)


class RingSizesTest(unittest.TestCase):
    def assert_sizes(self, polygon, radius, sizes, limit):
        with self.subTest(polygon=polygon, radius=radius, limit=limit):
            keywords = {} if limit is None else {"limit": limit}
            most = LIMIT if limit is None else limit
            if sum(sizes) > most:
                with self.assertRaises(TooMany) as caught:
                    ring_sizes(polygon, radius, **keywords)
                self.assertIs(type(caught.exception), TooMany)
                self.assertEqual(caught.exception.count, most + 1)
            else:
                found = ring_sizes(polygon, radius, **keywords)
                self.assertIs(type(found), tuple)
                self.assertEqual(found, sizes)

    def test_sizes_and_limits(self):
        for polygon in shapes():
            sizes = tuple(len(ring) for ring in rings_around(polygon.points, 4))
            for radius in range(5):
                inside = sizes[:radius + 1]
                for limit in (None, 1, 2, sum(inside) - 1, sum(inside), sum(inside) + 1, MOST):
                    if limit is None or limit >= 1:
                        self.assert_sizes(polygon, radius, inside, limit)

    def test_wide_rings(self):
        for polygon in wide_shapes():
            sizes = []
            for ring in rings_around(polygon.points, 10 if len(polygon.points) < 7 else 6):
                sizes.append(len(ring))
                inside = tuple(sizes)
                for limit in (None, sum(inside) - 1, sum(inside), sum(inside) + 1, MOST):
                    if limit is None or 1 <= limit <= MOST:
                        self.assert_sizes(polygon, len(inside) - 1, inside, limit)

    def test_radius_ten_of_many_joints(self):
        # More polygons than any limit allows are within this radius.
        for sides in (7, 8):
            for limit in (1, 10, 2999, 3000, 3001, MOST):
                with self.assertRaises(TooMany) as caught:
                    ring_sizes(Polygon(*simple_points(sides)), 10, limit=limit)
                self.assertEqual(caught.exception.count, limit + 1)
            with self.assertRaises(TooMany) as caught:
                ring_sizes(Polygon(*simple_points(sides)), 10)
            self.assertEqual(caught.exception.count, 3001)

    def test_triangles(self):
        maker = Random(173)
        for size in (1, 3, 30, FAR):
            triangle = any_shape(maker, 3, size)
            self.assertEqual(ring_sizes(triangle, 5), (1, 3, 6, 9, 12, 15))
            self.assertEqual(ring_sizes(triangle, 10), (1, 3, 6, 9, 12, 15, 18, 21, 24, 27, 30))
            self.assertEqual(ring_sizes(triangle, 0, limit=1), (1,))

    def test_limit_is_no_position(self):
        with self.assertRaises(TypeError):
            ring_sizes(Polygon(*simple_points(3)), 2, 10)

    def test_flawless_calls_after_an_error(self):
        polygon = Polygon(*simple_points(4))
        sizes = ring_sizes(polygon, 3)
        self.assert_sizes(polygon, 3, sizes, 5)
        self.assertEqual(ring_sizes(polygon, 3), sizes)


if __name__ == "__main__":
    unittest.main()
