"""The least of the shortest tuples of joints between two polygons, and the errors of both functions of its file."""

import unittest
from random import Random

from tests.corners import SIZES, SMALL_SHAPES, any_shape, near_pairs
from tests.goals import any_goal, shuffled
from tests.lattices import known_reason
from tests.rows import going_round
from tests.samples import FAR, SIDES, line_points, one_point, simple_points
from tests.search import plainly_flipped
from walkagon.errors import NotPlane, TooMany, Unreachable
from walkagon.least.numbers import LIMIT, first_flips, least_flips
from walkagon.reach.reasons import reason_against
from walkagon.shapes.polygons import Polygon

TRIANGLE = Polygon((0, 0), (1, 0), (0, 1))
SQUARE = Polygon((0, 0), (1, 0), (1, 1), (0, 1))


def far_pairs():
    """Shapes with goals that need more flips than the limit if it is omitted, but not more than 1000."""
    maker = Random(161)
    found = []
    for shape in SMALL_SHAPES + tuple(any_shape(maker, sides, size).points for sides in (3, 4) for size in SIZES):
        start = Polygon(*shape)
        for most in (50, 80, 120, 200, 300):
            goal = any_goal(maker, start, most)
            if 500 <= least_flips(start, goal) <= 1000:
                found.append((start, goal))
    # The sticks of a parallelogram can go around it in many ways here.
    found.append((SQUARE, SQUARE.moved((332, 0))))
    found.append((SQUARE, SQUARE.moved((1, -331))))
    return found


class NearTest(unittest.TestCase):
    def test_all_near_goals(self):
        for start, goal, joints in near_pairs():
            with self.subTest(start=start, goal=goal):
                found = first_flips(start, goal)
                self.assertIs(type(found), tuple)
                self.assertEqual(found, joints)

    def test_the_same_shape_anywhere(self):
        for start, goal, joints in near_pairs():
            if len(joints) in (3, 7):
                self.assertEqual(first_flips(start.moved((FAR, -FAR)), goal.moved((FAR, -FAR)), limit=1000), joints)

    def test_the_polygon_itself(self):
        maker = Random(162)
        for sides in (3, 4):
            for size in SIZES:
                start = any_shape(maker, sides, size)
                self.assertEqual(first_flips(start, start), ())
                self.assertEqual(first_flips(start, Polygon(*start.points), limit=1), ())

    def test_the_arguments_stay(self):
        goal = SQUARE.moved((3, 1))
        first = first_flips(SQUARE, goal)
        self.assertEqual(first_flips(goal=goal, start=SQUARE), first)
        self.assertEqual(SQUARE.points, ((0, 0), (1, 0), (1, 1), (0, 1)))
        self.assertEqual(goal.points, ((3, 1), (4, 1), (4, 2), (3, 2)))

    def test_defined_in_its_file(self):
        self.assertEqual(first_flips.__module__, "walkagon.least.numbers")


class FarTest(unittest.TestCase):
    def test_as_many_joints_as_flips_are_needed_and_they_lead_there(self):
        pairs = far_pairs()
        self.assertGreater(len(pairs), 15)
        for start, goal in pairs:
            with self.subTest(start=start, goal=goal):
                joints = first_flips(start, goal, limit=1000)
                self.assertEqual(len(joints), least_flips(start, goal))
                self.assertEqual(plainly_flipped(start.points, joints), goal.points)

    def test_no_lesser_joint_lowers_the_number(self):
        for start, goal in far_pairs()[::3]:
            number = least_flips(start, goal)
            polygon = start
            for joint in first_flips(start, goal, limit=1000):
                number -= 1
                for lesser in range(joint):
                    self.assertGreater(least_flips(polygon.flipped(lesser), goal), number)
                polygon = polygon.flipped(joint)
                self.assertEqual(least_flips(polygon, goal), number)
            self.assertEqual(number, 0)


class LimitTest(unittest.TestCase):
    def assert_too_many(self, start, goal, **keywords):
        with self.assertRaises(TooMany) as caught:
            first_flips(start, goal, **keywords)
        self.assertIs(type(caught.exception), TooMany)
        self.assertEqual(caught.exception.count, least_flips(start, goal))
        self.assertIs(type(caught.exception.count), int)

    def around(self, count):
        """A triangle, and a goal that needs exactly so many flips."""
        goal = TRIANGLE.flipped(*going_round(3, count))
        self.assertEqual(least_flips(TRIANGLE, goal), count)
        return TRIANGLE, goal

    def test_given_limits(self):
        for count in (1, 2, 3, 60, 501, 999, 1000):
            start, goal = self.around(count)
            for limit in (count, count + 1, 1000):
                self.assertEqual(len(first_flips(start, goal, limit=limit)), count)
            for limit in (1, count // 2, count - 1):
                if 1 <= limit < count:
                    self.assert_too_many(start, goal, limit=limit)

    def test_limit_omitted(self):
        self.assertEqual(LIMIT, 500)
        for count in (499, 500):
            start, goal = self.around(count)
            self.assertEqual(len(first_flips(start, goal)), count)
        for count in (501, 502, 1000, 1001):
            start, goal = self.around(count)
            self.assert_too_many(start, goal)
            self.assert_too_many(start, goal, limit=500)

    def test_quadrilaterals(self):
        for shape in SMALL_SHAPES:
            start = Polygon(*shape)
            goal = any_goal(Random(163), start, 9)
            count = least_flips(start, goal)
            self.assertEqual(len(first_flips(start, goal, limit=count)), count)
            self.assertEqual(len(first_flips(start, goal, limit=count + 1)), count)
            self.assert_too_many(start, goal, limit=count - 1)

    def test_a_limit_beyond_a_thousand(self):
        start, goal = self.around(1500)
        self.assertEqual(len(first_flips(start, goal, limit=2000)), 1500)
        self.assert_too_many(start, goal, limit=1200)

    def test_very_many(self):
        for polygon in (TRIANGLE, SQUARE):
            self.assert_too_many(polygon, polygon.moved((FAR, FAR)))
            self.assert_too_many(polygon, polygon.moved((FAR, FAR)), limit=1000)

    def test_limit_is_no_position(self):
        with self.assertRaises(TypeError):
            first_flips(TRIANGLE, TRIANGLE, 10)


class WrongEndsTest(unittest.TestCase):
    def calls(self, start, goal):
        return (lambda: least_flips(start, goal), lambda: first_flips(start, goal),
                lambda: first_flips(start, goal, limit=1), lambda: first_flips(start, goal, limit=1000))

    def assert_unreachable(self, start, goal):
        for call in self.calls(start, goal):
            with self.subTest(start=start, goal=goal):
                with self.assertRaises(Unreachable) as caught:
                    call()
                self.assertIs(type(caught.exception), Unreachable)
                self.assertIs(caught.exception.reason.holds(start, goal), True)
                self.assertEqual(caught.exception.reason, reason_against(start, goal))

    def assert_not_plane(self, start, goal):
        for call in self.calls(start, goal):
            with self.subTest(start=start, goal=goal):
                with self.assertRaises(NotPlane) as caught:
                    call()
                self.assertIs(type(caught.exception), NotPlane)

    def flat_polygons(self):
        maker = Random(164)
        return [Polygon(*kind(maker, sides)) for sides in SIDES for kind in (line_points, one_point) for _ in range(5)]

    def test_goals_that_no_flips_lead_to(self):
        maker = Random(165)
        tried = 0
        for sides in (3, 4):
            for size in SIZES:
                for most in (0, 1, 30, 10 ** 10):
                    start = any_shape(maker, sides, size)
                    goal = any_goal(maker, start, most)
                    for wrong in (goal.moved((1, 0)), goal.moved((0, -1)), any_shape(maker, sides, size),
                                  any_shape(maker, 7 - sides, size), Polygon(*simple_points(5))):
                        if known_reason(start, wrong) is not None:
                            self.assert_unreachable(start, wrong)
                            tried += 1
        self.assertGreater(tried, 100)

    def test_unreachable_comes_first(self):
        for sides in range(5, 9):
            start = Polygon(*simple_points(sides))
            self.assert_unreachable(start, TRIANGLE)
            self.assert_unreachable(TRIANGLE, start)
            self.assert_unreachable(start, start.moved((1, 0)) if known_reason(start, start.moved((1, 0))) is not None
                                    else Polygon(*simple_points(sides - 1)))
        for start in self.flat_polygons():
            self.assert_unreachable(start, SQUARE)
            self.assert_unreachable(SQUARE, start)
        line = Polygon((0, 0), (2, 4), (-1, -2), (0, 0))
        self.assert_unreachable(line, line.moved((1, 0)))
        self.assert_unreachable(Polygon((1, 1), (1, 1), (1, 1)), Polygon((2, 1), (2, 1), (2, 1)))

    def test_more_than_four_joints(self):
        maker = Random(166)
        for sides in range(5, 9):
            start = Polygon(*simple_points(sides))
            for goal in (start, start.flipped(0), shuffled(maker, start, (0, 0)), any_goal(maker, start, 10 ** 6)):
                self.assert_not_plane(start, goal)

    def test_not_plane(self):
        maker = Random(167)
        for start in self.flat_polygons():
            for goal in (start, start.flipped(0), start.flipped(1, 2, 0), any_goal(maker, start, 10 ** 6)):
                self.assert_not_plane(start, goal)

    def test_flawless_polygons_after_an_error(self):
        self.assert_not_plane(Polygon(*simple_points(5)), Polygon(*simple_points(5)))
        self.assertEqual(first_flips(TRIANGLE, TRIANGLE.moved((1, 1))), (0, 1, 2, 1))


if __name__ == "__main__":
    unittest.main()
