"""Flips of one joint and of many: `flipped` of Polygon, and `play`."""

import unittest
from itertools import product
from random import Random

from tests.samples import SIDES, all_samples, simple_points, wrong_joints
from tests.search import plainly_flipped
from walkagon.errors import BadJoint
from walkagon.shapes.polygons import Polygon
from walkagon.shapes.steps import play


def flips_of(polygon, joints, **keywords):
    """The two ways to the same polygon."""
    return [polygon.flipped(*joints, **keywords), play(polygon, joints, **keywords)]


class OneFlipTest(unittest.TestCase):
    def test_known_flips(self):
        triangle = Polygon((0, 0), (1, 0), (0, 1))
        square = Polygon((0, 0), (1, 0), (1, 1), (0, 1))
        for polygon, joint, points in (
                (triangle, 0, ((1, 1), (1, 0), (0, 1))),
                (triangle, 1, ((0, 0), (-1, 1), (0, 1))),
                (triangle, 2, ((0, 0), (1, 0), (1, -1))),
                (square, 0, ((1, 1), (1, 0), (1, 1), (0, 1))),
                (square, 3, ((0, 0), (1, 0), (1, 1), (1, 0)))):
            for flipped in flips_of(polygon, (joint,)):
                self.assertIsInstance(flipped, Polygon)
                self.assertEqual(flipped.points, points)

    def test_one_flip_of_each_joint(self):
        for points in all_samples():
            polygon = Polygon(*points)
            for joint in range(len(points)):
                for keywords in ({}, {"reverse": False}, {"reverse": True}):
                    for flipped in flips_of(polygon, (joint,), **keywords):
                        self.assertEqual(flipped.points, plainly_flipped(points, (joint,)))
            self.assertEqual(polygon.points, points)

    def test_a_flip_exchanges_two_sticks_and_leaves_the_other_joints(self):
        for points in all_samples():
            polygon = Polygon(*points)
            for joint in range(len(points)):
                flipped = polygon.flipped(joint)
                sticks = list(polygon.sticks)
                sticks[joint - 1], sticks[joint] = sticks[joint], sticks[joint - 1]
                self.assertEqual(flipped.sticks, tuple(sticks))
                self.assertEqual(flipped.points[:joint], points[:joint])
                self.assertEqual(flipped.points[joint + 1:], points[joint + 1:])

    def test_the_same_flip_again_undoes_a_flip(self):
        for points in all_samples():
            polygon = Polygon(*points)
            for joint in range(len(points)):
                self.assertEqual(polygon.flipped(joint).flipped(joint), polygon)
                for flipped in flips_of(polygon, (joint, joint)):
                    self.assertEqual(flipped, polygon)


class ManyFlipsTest(unittest.TestCase):
    def test_no_joint(self):
        for points in all_samples():
            polygon = Polygon(*points)
            for keywords in ({}, {"reverse": False}, {"reverse": True}):
                for flipped in flips_of(polygon, (), **keywords):
                    self.assertEqual(flipped, polygon)

    def test_several_joints(self):
        maker = Random(5)
        for points in all_samples():
            polygon = Polygon(*points)
            for count in (2, 3, 5, 8, 20):
                joints = tuple(maker.randrange(len(points)) for _ in range(count))
                forth = plainly_flipped(points, joints)
                back = plainly_flipped(points, joints[::-1])
                for flipped in flips_of(polygon, joints) + flips_of(polygon, joints, reverse=False):
                    self.assertEqual(flipped.points, forth)
                for flipped in flips_of(polygon, joints, reverse=True):
                    self.assertEqual(flipped.points, back)
            self.assertEqual(polygon.points, points)

    def test_the_order_matters(self):
        triangle = Polygon((0, 0), (1, 0), (0, 1))
        for flipped in flips_of(triangle, (0, 1)):
            self.assertEqual(flipped, Polygon((1, 1), (0, 2), (0, 1)))
        for flipped in flips_of(triangle, (0, 1), reverse=True):
            self.assertEqual(flipped, Polygon((-1, 2), (-1, 1), (0, 1)))

    def test_all_short_sequences(self):
        points = simple_points(4)
        for joints in product(range(4), repeat=4):
            self.assertEqual(Polygon(*points).flipped(*joints).points, plainly_flipped(points, joints))

    def test_the_reverse_undoes(self):
        maker = Random(6)
        for points in all_samples():
            polygon = Polygon(*points)
            joints = tuple(maker.randrange(len(points)) for _ in range(30))
            self.assertEqual(polygon.flipped(*joints).flipped(*joints, reverse=True), polygon)
            self.assertEqual(play(play(polygon, joints, reverse=True), joints), polygon)

    def test_thousands_of_joints(self):
        maker = Random(7)
        for sides in SIDES:
            points = simple_points(sides)
            polygon = Polygon(*points)
            for count in (1000, 4999, 5000):
                joints = tuple(maker.randrange(sides) for _ in range(count))
                self.assertEqual(play(polygon, joints).points, plainly_flipped(points, joints))
                self.assertEqual(play(polygon, joints, reverse=False), play(polygon, joints))
                self.assertEqual(play(polygon, joints, reverse=True).points, plainly_flipped(points, joints[::-1]))

    def test_a_long_walk(self):
        triangle = Polygon((0, 0), (1, 0), (0, 1))
        self.assertEqual(play(triangle, (0, 1, 2) * 1666), triangle.moved((0, 1666 // 2 * 3)))


class WrongJointTest(unittest.TestCase):
    def assert_bad_joint(self, polygon, joints, joint):
        points = polygon.points
        for keywords in ({}, {"reverse": False}, {"reverse": True}):
            with self.subTest(joints=joints, keywords=keywords):
                with self.assertRaises(BadJoint) as caught:
                    polygon.flipped(*joints, **keywords)
                self.assertEqual(caught.exception.joint, joint)
                with self.assertRaises(BadJoint) as caught:
                    play(polygon, joints, **keywords)
                self.assertEqual(caught.exception.joint, joint)
                self.assertEqual(polygon.points, points)

    def test_one_wrong_joint_at_each_place(self):
        for sides in SIDES:
            polygon = Polygon(*simple_points(sides))
            for wrong in wrong_joints(sides):
                for count in (1, 2, 5, 8):
                    for index in range(count):
                        joints = [place % sides for place in range(count)]
                        joints[index] = wrong
                        self.assert_bad_joint(polygon, tuple(joints), wrong)

    def test_two_wrong_joints(self):
        for sides in SIDES:
            polygon = Polygon(*simple_points(sides))
            for wrong, other in ((-1, sides), (sides, -1), (sides + 5, sides), (-2, -1)):
                for second in range(1, 6):
                    for first in range(second):
                        joints = [0, 1, 2, 0, 1, 2]
                        joints[first], joints[second] = wrong, other
                        self.assert_bad_joint(polygon, tuple(joints), wrong)

    def test_the_last_of_many(self):
        polygon = Polygon(*simple_points(8))
        self.assert_bad_joint(polygon, (0, 7) * 2499 + (3, 8), 8)

    def test_the_last_joint_is_right(self):
        for sides in SIDES:
            points = simple_points(sides)
            for flipped in flips_of(Polygon(*points), (sides - 1,)):
                self.assertEqual(flipped.points, plainly_flipped(points, (sides - 1,)))


class CallTest(unittest.TestCase):
    def test_play_by_name(self):
        triangle = Polygon((0, 0), (1, 0), (0, 1))
        self.assertEqual(play(joints=(0, 1), polygon=triangle), triangle.flipped(0, 1))
        self.assertEqual(play(reverse=True, joints=(0, 1), polygon=triangle), triangle.flipped(1, 0))

    def test_reverse_is_no_position(self):
        with self.assertRaises(TypeError):
            play(Polygon((0, 0), (1, 0), (0, 1)), (0, 1), True)

    def test_play_is_defined_in_its_file(self):
        self.assertEqual(play.__module__, "walkagon.shapes.steps")


if __name__ == "__main__":
    unittest.main()
