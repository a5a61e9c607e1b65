"""Polygons: their attributes and properties, equality, printing, moving and mirroring."""

import unittest

from tests.samples import FAR, all_samples, simple_points
from walkagon.shapes.polygons import Polygon

# Points, sticks, double area, is it plane, written form: worked out by hand.
TABLE = (
    (((0, 0), (1, 0), (0, 1)),
     ((1, 0), (-1, 1), (0, -1)), 1, True, "0,0 1,0 0,1"),
    (((0, 0), (0, 1), (1, 1), (1, 0)),
     ((0, 1), (1, 0), (0, -1), (-1, 0)), -2, True, "0,0 0,1 1,1 1,0"),
    (((0, 0), (1, 1), (1, 0), (0, 1)),
     ((1, 1), (0, -1), (-1, 1), (0, -1)), 0, True, "0,0 1,1 1,0 0,1"),
    (((2, 1), (2, 1), (3, 1), (2, 2)),
     ((0, 0), (1, 0), (-1, 1), (0, -1)), 1, True, "2,1 2,1 3,1 2,2"),
    (((0, 0), (1, 0), (2, 0), (3, 0), (3, -1)),
     ((1, 0), (1, 0), (1, 0), (0, -1), (-3, 1)), -3, True, "0,0 1,0 2,0 3,0 3,-1"),
    (((0, 0), (1, 0), (1, 0), (1, 1), (1, 1), (0, 0)),
     ((1, 0), (0, 0), (0, 1), (0, 0), (-1, -1), (0, 0)), 1, True, "0,0 1,0 1,0 1,1 1,1 0,0"),
    (((1, 2), (2, 4), (-1, -2), (0, 0), (3, 6), (1, 2)),
     ((1, 2), (-3, -6), (1, 2), (3, 6), (-2, -4), (0, 0)), 0, False, "1,2 2,4 -1,-2 0,0 3,6 1,2"),
    (((5, -7),) * 7,
     ((0, 0),) * 7, 0, False, "5,-7 5,-7 5,-7 5,-7 5,-7 5,-7 5,-7"),
    (((0, 0), (1, 0), (2, 1), (2, 2), (1, 3), (0, 3), (-1, 2), (-1, 1)),
     ((1, 0), (1, 1), (0, 1), (-1, 1), (-1, 0), (-1, -1), (0, -1), (1, -1)), 14, True,
     "0,0 1,0 2,1 2,2 1,3 0,3 -1,2 -1,1"),
    (((-FAR, -FAR), (FAR, -FAR), (FAR, FAR), (-FAR, FAR)),
     ((2 * FAR, 0), (0, 2 * FAR), (-2 * FAR, 0), (0, -2 * FAR)), 8 * 10 ** 30, True,
     "-1000000000000000,-1000000000000000 1000000000000000,-1000000000000000 "
     "1000000000000000,1000000000000000 -1000000000000000,1000000000000000"),
)


class SamePoints:
    """Not a polygon, although it has the points of one."""

    def __init__(self, points):
        self.points = points


class TableTest(unittest.TestCase):
    def test_table(self):
        for points, sticks, double_area, plane, text in TABLE:
            with self.subTest(points=points):
                polygon = Polygon(*points)
                self.assertEqual(polygon.points, points)
                self.assertEqual(polygon.sticks, sticks)
                self.assertEqual(polygon.double_area, double_area)
                self.assertIs(polygon.is_plane, plane)
                self.assertEqual(polygon.text, text)

    def test_most_joints(self):
        self.assertEqual(Polygon.MOST_JOINTS, 8)
        self.assertEqual(Polygon(*simple_points(3)).MOST_JOINTS, 8)

    def test_methods_are_defined_in_the_class(self):
        self.assertEqual(Polygon.__module__, "walkagon.shapes.polygons")
        for name in ("sticks", "double_area", "is_plane", "text", "parse", "from_sticks", "mirror",
                     "flipped", "moved", "__init__", "__eq__", "__len__", "__repr__", "__str__"):
            self.assertIn(name, vars(Polygon))


class SampleTest(unittest.TestCase):
    def test_attributes_and_properties(self):
        for points in all_samples():
            with self.subTest(points=points):
                count = len(points)
                polygon = Polygon(*points)
                around = [(points[i], points[(i + 1) % count]) for i in range(count)]
                sticks = tuple((b[0] - a[0], b[1] - a[1]) for a, b in around)
                crosses = [a[0] * b[1] - a[1] * b[0] for a in sticks for b in sticks]
                self.assertEqual(polygon.points, points)
                self.assertIs(type(polygon.points), tuple)
                self.assertEqual(polygon.sticks, sticks)
                self.assertIs(type(polygon.sticks), tuple)
                self.assertEqual(polygon.double_area, sum(a[0] * b[1] - a[1] * b[0] for a, b in around))
                self.assertIs(polygon.is_plane, crosses != [0] * count ** 2)
                self.assertEqual(len(polygon), count)

    def test_written_and_printed(self):
        for points in all_samples():
            with self.subTest(points=points):
                polygon = Polygon(*points)
                printed = "Polygon(" + ", ".join(repr(point) for point in points) + ")"
                self.assertEqual(repr(polygon), printed)
                self.assertEqual(str(polygon), printed)
                self.assertEqual(f"{polygon}", printed)
                self.assertEqual(f"{polygon!r} and {polygon!s}", printed + " and " + printed)
                self.assertEqual(polygon.text, " ".join(str(x) + "," + str(y) for x, y in points))

    def test_same_answers_again(self):
        for points in all_samples():
            polygon = Polygon(*points)
            first = (polygon.sticks, polygon.double_area, polygon.is_plane, polygon.text, repr(polygon))
            again = (polygon.sticks, polygon.double_area, polygon.is_plane, polygon.text, repr(polygon))
            self.assertEqual(first, again)
            self.assertEqual(polygon.points, points)


class EqualityTest(unittest.TestCase):
    def assert_differ(self, first, second):
        self.assertIs(first == second, False)
        self.assertIs(second == first, False)
        self.assertIs(first != second, True)

    def test_equal_points(self):
        for points in all_samples():
            with self.subTest(points=points):
                polygon = Polygon(*points)
                self.assertIs(polygon == Polygon(*points), True)
                self.assertIs(polygon != Polygon(*points), False)
                self.assertIs(polygon == polygon.moved((0, 0)), True)

    def test_one_joint_moved_by_one(self):
        for points in all_samples():
            for index, (x, y) in enumerate(points):
                for moved in ((x + 1, y), (x - 1, y), (x, y + 1), (x, y - 1)):
                    changed = points[:index] + (moved,) + points[index + 1:]
                    self.assert_differ(Polygon(*points), Polygon(*changed))

    def test_one_joint_fewer(self):
        for points in all_samples():
            for index in range(len(points)):
                if len(points) > 3:
                    fewer = points[:index] + points[index + 1:]
                    self.assert_differ(Polygon(*points), Polygon(*fewer))

    def test_other_polygons(self):
        points = simple_points(5)
        self.assert_differ(Polygon(*points), Polygon(*points[1:], points[0]))
        self.assert_differ(Polygon(*points), Polygon(*points[::-1]))
        self.assert_differ(Polygon(*points), Polygon(*[(y, x) for x, y in points]))
        self.assert_differ(Polygon(*points), Polygon(*points).moved((1, 0)))

    def test_other_values(self):
        polygon = Polygon(*simple_points(4))
        for other in (polygon.points, list(polygon.points), polygon.text, repr(polygon), None, 4,
                      SamePoints(polygon.points)):
            self.assert_differ(polygon, other)


class MoveTest(unittest.TestCase):
    def test_moved(self):
        for points in all_samples():
            for a, b in ((0, 0), (1, 0), (0, 1), (-3, 8), (FAR, -FAR), (-FAR, FAR)):
                with self.subTest(points=points, vector=(a, b)):
                    polygon = Polygon(*points)
                    moved = polygon.moved((a, b))
                    self.assertIsInstance(moved, Polygon)
                    self.assertEqual(moved.points, tuple((x + a, y + b) for x, y in points))
                    self.assertEqual(moved.sticks, polygon.sticks)
                    self.assertEqual(moved.double_area, polygon.double_area)
                    self.assertEqual(polygon.points, points)

    def test_vector_by_name(self):
        moved = Polygon((0, 0), (1, 0), (0, 1)).moved(vector=(2, 3))
        self.assertEqual(moved.points, ((2, 3), (3, 3), (2, 4)))


class MirrorTest(unittest.TestCase):
    def test_known_images(self):
        for point, first, second, image in (
                ((0, 0), (1, 0), (0, 1), (1, 1)),
                ((1, 1), (1, 0), (0, 1), (0, 0)),
                ((5, -2), (3, 3), (3, 3), (1, 8)),
                ((2, 7), (2, 7), (4, -1), (4, -1)),
                ((0, 0), (0, 0), (0, 0), (0, 0)),
                ((-FAR, FAR), (FAR, -FAR), (FAR, -FAR), (3 * FAR, -3 * FAR))):
            with self.subTest(point=point):
                self.assertEqual(Polygon.mirror(point, first, second), image)
                self.assertIs(type(Polygon.mirror(point, first, second)), tuple)

    def test_mirror_of_samples(self):
        for points in all_samples():
            for index, point in enumerate(points):
                first, second = points[index - 1], points[index - 2]
                image = Polygon.mirror(point, first, second)
                self.assertEqual(image, Polygon.mirror(point, second, first))
                self.assertEqual((point[0] + image[0], point[1] + image[1]),
                                 (first[0] + second[0], first[1] + second[1]))
                self.assertEqual(Polygon.mirror(image, first, second), point)

    def test_of_an_object_and_by_name(self):
        polygon = Polygon((0, 0), (1, 0), (0, 1))
        self.assertEqual(polygon.mirror((0, 0), (1, 0), (0, 1)), (1, 1))
        self.assertEqual(Polygon.mirror(second=(0, 5), point=(1, 1), first=(3, 0)), (2, 4))


if __name__ == "__main__":
    unittest.main()
