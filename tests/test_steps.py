"""The polygons after each flip: `steps`."""

import unittest
from random import Random

from tests.samples import SIDES, all_samples, simple_points, wrong_joints
from walkagon.errors import BadJoint
from walkagon.shapes.polygons import Polygon
from walkagon.shapes.steps import steps


class StepsTest(unittest.TestCase):
    def test_no_joint(self):
        for points in all_samples():
            self.assertEqual(list(steps(Polygon(*points), ())), [Polygon(*points)])

    def test_the_polygon_first(self):
        for points in all_samples():
            for polygon in steps(Polygon(*points), (0, 1, 2)):
                self.assertEqual(polygon.points, points)
                break

    def test_the_polygon_after_each_flip(self):
        maker = Random(8)
        for points in all_samples():
            polygon = Polygon(*points)
            for count in (1, 2, 7, 12):
                joints = tuple(maker.randrange(len(points)) for _ in range(count))
                expected = [polygon.flipped(*joints[:end]) for end in range(count + 1)]
                self.assertEqual(list(steps(polygon, joints)), expected)
            self.assertEqual(polygon.points, points)

    def test_thousands_of_joints(self):
        maker = Random(9)
        polygon = Polygon(*simple_points(8))
        joints = tuple(maker.randrange(8) for _ in range(5000))
        found = list(steps(polygon, joints))
        self.assertEqual(len(found), 5001)
        self.assertEqual(found[0], polygon)
        for index, joint in enumerate(joints):
            self.assertEqual(found[index + 1], found[index].flipped(joint))

    def test_the_same_steps_again(self):
        polygon = Polygon(*simple_points(5))
        self.assertEqual(list(steps(polygon, (4, 0, 3))), list(steps(joints=(4, 0, 3), polygon=polygon)))

    def assert_bad_joint(self, polygon, joints, joint):
        yielded = []
        with self.subTest(joints=joints):
            with self.assertRaises(BadJoint) as caught:
                for step in steps(polygon, joints):
                    yielded.append(step)
            self.assertEqual(caught.exception.joint, joint)
            self.assertEqual(yielded, [])

    def test_a_wrong_joint_anywhere(self):
        for sides in SIDES:
            polygon = Polygon(*simple_points(sides))
            for wrong in wrong_joints(sides):
                for count in (1, 2, 6):
                    for index in range(count):
                        joints = [place % sides for place in range(count)]
                        joints[index] = wrong
                        self.assert_bad_joint(polygon, tuple(joints), wrong)

    def test_two_wrong_joints(self):
        polygon = Polygon(*simple_points(3))
        self.assert_bad_joint(polygon, (0, 3, 1, -1), 3)
        self.assert_bad_joint(polygon, (-1, 3), -1)
        self.assert_bad_joint(polygon, (0, 1, 2) * 1000 + (7, -7), 7)

    def test_steps_is_defined_in_its_file(self):
        self.assertEqual(steps.__module__, "walkagon.shapes.steps")


if __name__ == "__main__":
    unittest.main()
