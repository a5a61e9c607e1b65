"""Periods and mean motions: `period` and `mean_motion`."""

import unittest
from fractions import Fraction
from math import gcd
from random import Random

from tests.rows import FAR_COUNT, any_joints, any_tree, going_round, nested_tree, text_of
from tests.samples import SIDES, all_samples, one_point, simple_points
from walkagon.shapes.polygons import Polygon
from walkagon.shifts.language import mean_motion, period, run

SMALL_COUNTS = (None, None, 0, 1, 2, 3)
LARGE_COUNTS = (None, 1, 2, 12345, 10 ** 17 + 1, FAR_COUNT)
# After so many runs of any script, the sticks of up to eight joints are in their old order.
COMMON = 840
NOTHING = ((0, 1), (0, 1))


def twin_points(maker, sides):
    """Only two different sticks, so that other orders of the same sticks look alike."""
    x, y = maker.randint(1, 3), maker.randint(-3, 3)
    steps = [maker.choice((1 - sides, 1)) for _ in range(sides - 1)]
    points = [(0, 0)]
    for step in steps:
        points.append((points[-1][0] + step * x, points[-1][1] + step * y))
    return tuple(points)


def polygons():
    maker = Random(111)
    found = all_samples() + [twin_points(maker, sides) for sides in SIDES for _ in range(6)]
    return maker, [Polygon(*points) for points in found]


def written(joints):
    return " ".join([str(joint) for joint in joints])


def found_period(polygon, joints):
    """The least number of runs that return the polygon, one by one; None if there is none up to the common one."""
    after = polygon
    for count in range(1, COMMON + 1):
        after = after.flipped(*joints)
        if after == polygon:
            return count
    return None


class PeriodTest(unittest.TestCase):
    def assert_answers(self, polygon, script):
        """Returns whether there is a period."""
        with self.subTest(polygon=polygon, script=script):
            motion = mean_motion(polygon, script)
            after = run(polygon, script, times=COMMON)
            self.assertEqual(after.sticks, polygon.sticks)
            self.assertIs(type(motion), tuple)
            self.assertEqual(len(motion), 2)
            for fraction, old, new in zip(motion, polygon.points[0], after.points[0]):
                self.assertIs(type(fraction), tuple)
                numerator, denominator = fraction
                self.assertGreater(denominator, 0)
                self.assertEqual(gcd(numerator, denominator), 1)
                self.assertEqual(Fraction(numerator, denominator), Fraction(new - old, COMMON))
            count = period(polygon, script)
            self.assertIs(count is None, motion != NOTHING)
            if count is not None:
                self.assertIs(type(count), int)
                self.assertEqual(run(polygon, script, times=count), polygon)
                self.assertEqual(run(polygon, script, times=-count), polygon)
                for fewer in range(1, count):
                    self.assertNotEqual(run(polygon, script, times=fewer), polygon)
            return count is not None

    def test_small_scripts(self):
        maker, found = polygons()
        answers = []
        for polygon in found:
            sides = len(polygon)
            for depth in (0, 1, 3):
                tree = any_tree(maker, sides, depth, SMALL_COUNTS, 4 * sides // (depth + 1))
                answers.append(self.assert_answers(polygon, text_of(tree)))
            answers.append(self.assert_answers(polygon, written(any_joints(maker, sides, 9 * sides))))
            # Rounds walk, even if some other flips come between.
            rounds = going_round(sides, 2 * sides) + any_joints(maker, sides, 3)
            answers.append(self.assert_answers(polygon, written(rounds)))
        self.assertGreater(answers.count(True), 100)
        self.assertGreater(answers.count(False), 100)

    def test_run_by_run(self):
        maker, found = polygons()
        for polygon in found:
            joints = any_joints(maker, len(polygon), maker.randint(1, 3 * len(polygon)))
            self.assertEqual(period(polygon, written(joints)), found_period(polygon, joints))

    def test_large_counts(self):
        maker, found = polygons()
        for polygon in found:
            self.assert_answers(polygon, text_of(nested_tree(maker, len(polygon), LARGE_COUNTS)))

    def test_the_empty_script(self):
        for polygon in polygons()[1]:
            for script in ("", "( )", "0*0", "( 0 1 )*0", "1*2", "( 0 1 ) ~( 0 1 )"):
                self.assertEqual(period(polygon, script), 1)
                self.assertEqual(mean_motion(polygon, script), NOTHING)

    def test_one_flip(self):
        for sides in SIDES:
            polygon = Polygon(*simple_points(sides))
            for joint in range(sides):
                self.assertEqual(period(polygon, str(joint)), 2)
                self.assertEqual(mean_motion(polygon, str(joint)), NOTHING)

    def test_each_order_of_sticks(self):
        """Scripts that turn the sticks round, without the joint 0."""
        for sides in SIDES:
            polygon = Polygon(*simple_points(sides))
            for turned in range(1, sides):
                script = " ".join(str(joint) for joint in range(1, turned + 1))
                self.assertEqual(period(polygon, script), turned + 1)

    def test_the_longest_period(self):
        polygon = Polygon(*simple_points(8))
        self.assertEqual(period(polygon, "1 2 4 5 6 7"), 15)
        self.assertEqual(mean_motion(polygon, "1 2 4 5 6 7"), NOTHING)

    def test_known_motions(self):
        triangle = Polygon((0, 0), (1, 0), (0, 1))
        for script, motion in (
                ("0 1 2", ((0, 1), (3, 2))),
                ("~( 0 1 2 )", ((0, 1), (-3, 2))),
                ("( 0 1 2 )*2", ((0, 1), (3, 1))),
                ("( 0 1 2 )*3", ((0, 1), (9, 2))),
                (f"( 0 1 2 )*{FAR_COUNT}", ((0, 1), (3 * 10 ** 18 // 2, 1))),
                (f"( 0 1 2 )*{FAR_COUNT - 1}", ((0, 1), (3 * (10 ** 18 - 1), 2))),
                ("0 1", NOTHING)):
            with self.subTest(script=script):
                self.assertEqual(mean_motion(triangle, script), motion)
                self.assertEqual(period(triangle, script), 3 if motion == NOTHING else None)

    def test_equal_sticks(self):
        """Flips of equal sticks change nothing, so the period is that of the polygon, not that of the shift."""
        polygon = Polygon.from_sticks((0, 0), (1, 0), (1, 0), (0, 1), (-2, -1))
        self.assertEqual(period(polygon, "1"), 1)
        self.assertEqual(period(polygon, "2"), 2)
        self.assertEqual(period(polygon, "1 2"), 3)
        self.assertEqual(period(Polygon.from_sticks((0, 0), (1, 2), (-1, -2), (1, 2), (-1, -2)), "1 2 3"), 2)

    def test_one_point(self):
        maker = Random(112)
        for sides in SIDES:
            polygon = Polygon(*one_point(maker, sides))
            for script in ("", "0", "0 1 2", f"( 0 1 ~( 2 1 )*7 )*{FAR_COUNT}"):
                self.assertEqual(period(polygon, script), 1)
                self.assertEqual(mean_motion(polygon, script), NOTHING)

    def test_a_motion_along_one_coordinate(self):
        line = Polygon((0, 0), (1, 0), (3, 0))
        self.assertEqual(mean_motion(line, "0 1 2")[1], (0, 1))
        self.assertNotEqual(mean_motion(line, "0 1 2")[0], (0, 1))
        self.assertIsNone(period(line, "0 1 2"))

    def test_by_name_and_again(self):
        triangle = Polygon((0, 0), (1, 0), (0, 1))
        for _ in range(2):
            self.assertEqual(period(script="0 1", polygon=triangle), 3)
            self.assertEqual(mean_motion(script="0 1 2", polygon=triangle), ((0, 1), (3, 2)))
        self.assertEqual(triangle.points, ((0, 0), (1, 0), (0, 1)))


if __name__ == "__main__":
    unittest.main()
