"""Whether flips lead from one polygon to another one: `reason_against`."""

import unittest
from random import Random

from tests.goals import shuffled, starts
from tests.lattices import differences, flips_lead, known_reason, summed
from tests.samples import FAR, SIDES, far_points, simple_points
from walkagon.reach.reasons import Congruence, JointCount, StickCount, reason_against
from walkagon.shapes.polygons import Polygon

NO_REASON = (StickCount((0, 0)), StickCount((1, 0)), Congruence(1, 0, 2), Congruence(1, 1, 2), Congruence(1, 0, 0),
             Congruence(2, -1, 5), Congruence(0, 1, 3))


class ReasonAgainstTest(unittest.TestCase):
    def assert_answer(self, start, goal):
        with self.subTest(start=start, goal=goal):
            reason = reason_against(start, goal)
            expected = known_reason(start, goal)
            if expected is None:
                self.assertIsNone(reason)
                return
            self.assertIs(reason.holds(start, goal), True)
            if expected:
                self.assertEqual(reason.told(), expected)
                self.assertIs(type(reason), JointCount if "different" in expected else StickCount)
            else:
                self.assertIs(type(reason), Congruence)
                self.assertGreaterEqual(reason.modulus, 0)
                for number in (reason.a, reason.b, reason.modulus):
                    self.assertIs(type(number), int)
                    self.assertLess(abs(number), 10 ** 300)

    def test_sums_of_differences(self):
        maker = Random(52)
        for start in starts():
            vectors = differences(start.sticks)
            for most in (0, 1, 5, 10 ** 6, 10 ** 9):
                x, y = summed([maker.randint(-most, most) for _ in vectors], vectors)
                self.assertIsNone(reason_against(start, shuffled(maker, start, (x, y))))
                self.assert_answer(start, shuffled(maker, start, (x, y)))
                for change in ((1, 0), (0, 1), (-1, 1), (0, -1), (2, 3), (60, 60)):
                    self.assert_answer(start, shuffled(maker, start, (x + change[0], y + change[1])))

    def test_both_answers_occur(self):
        maker = Random(53)
        found = [reason_against(start, shuffled(maker, start, (maker.randint(-9, 9), maker.randint(-9, 9))))
                 for start in starts() for _ in range(4)]
        self.assertGreater(sum(reason is None for reason in found), 50)
        self.assertGreater(sum(type(reason) is Congruence for reason in found), 50)

    def test_a_multiple_of_a_million(self):
        square = Polygon((0, 0), (1, 0), (1, 1), (0, 1))
        for count in (10 ** 6, 10 ** 12, 10 ** 15):
            self.assertIsNone(reason_against(square, square.moved((count, count))))
            self.assertIsNone(reason_against(square, square.moved((-count, count))))
            for goal in (square.moved((count + 1, count)), square.moved((count, -count - 1))):
                self.assert_answer(square, goal)
                self.assertIs(type(reason_against(square, goal)), Congruence)

    def test_one_joint_moved(self):
        maker = Random(54)
        for start in starts():
            for joint in range(len(start.points)):
                points = list(start.points)
                points[joint] = (points[joint][0] + maker.randint(-1, 1), points[joint][1] + maker.randint(-2, 2))
                self.assert_answer(start, Polygon(*points))

    def test_the_polygon_moved(self):
        for start in starts():
            for move in ((0, 0), (1, 0), (0, 1), (-1, 0), (1, 1), (FAR, -FAR)):
                self.assert_answer(start, start.moved(move))

    def test_joints_renumbered(self):
        for start in starts():
            for first in range(len(start.points)):
                self.assert_answer(start, Polygon(*start.points[first:], *start.points[:first]))
            self.assert_answer(start, Polygon(*start.points[::-1]))

    def test_other_numbers_of_joints(self):
        for sides in SIDES:
            for other in SIDES:
                reason = reason_against(Polygon(*simple_points(sides)), Polygon(*simple_points(other)))
                self.assertEqual(reason, None if sides == other else JointCount())
                reason = reason_against(Polygon(*((1, 1),) * sides), Polygon(*((1, 1),) * other))
                self.assertEqual(reason, None if sides == other else JointCount())

    def test_any_two(self):
        maker = Random(55)
        found = starts()
        for start in found:
            self.assert_answer(start, maker.choice(found))

    def test_far_polygons(self):
        maker = Random(56)
        for sides in SIDES:
            for _ in range(20):
                start = Polygon(*far_points(maker, sides))
                self.assert_answer(start, shuffled(maker, start, (0, 0)))
                self.assert_answer(start, Polygon(*far_points(maker, sides)))
                self.assert_answer(start, shuffled(maker, start, (maker.randint(-FAR, FAR), maker.randint(-FAR, FAR))))

    def test_the_least_stick(self):
        start = Polygon.from_sticks((0, 0), (1, 0), (1, 0), (-3, 5), (1, -5))
        for sticks, stick in (
                (((1, 0), (1, -5), (-3, 5), (1, 0)), None),
                (((1, 0), (2, 0), (-3, 5), (0, -5)), (0, -5)),
                (((1, -5), (1, -5), (-3, 5), (1, 5)), (1, -5)),
                (((1, 0), (1, 0), (-3, 6), (1, -6)), (-3, 5)),
                (((1, 0), (1, 0), (-4, 6), (2, -6)), (-4, 6))):
            goal = Polygon.from_sticks((0, 0), *sticks)
            expected = None if stick is None else StickCount(stick)
            self.assertEqual(reason_against(start, goal), expected)
            self.assertEqual(reason_against(goal, start), expected)

    def test_one_line(self):
        line = Polygon((0, 0), (2, 4), (-1, -2), (0, 0))
        for move, reached in (((0, 0), True), ((1, 2), True), ((-5, -10), True), ((1, 0), False), ((0, 1), False),
                              ((2, 3), False)):
            self.assertEqual(reason_against(line, line.moved(move)) is None, reached)
            self.assert_answer(line, line.moved(move))
        upright = Polygon((3, 0), (3, 2), (3, 6))
        for move, reached in (((0, 0), True), ((0, 2), True), ((0, 1), False), ((1, 0), False), ((1, 2), False)):
            self.assertEqual(reason_against(upright, upright.moved(move)) is None, reached)
            self.assert_answer(upright, upright.moved(move))

    def test_one_point(self):
        for sides in SIDES:
            point = Polygon(*((4, -4),) * sides)
            self.assertIsNone(reason_against(point, point))
            for move in ((1, 0), (0, 1), (-1, 3)):
                self.assert_answer(point, point.moved(move))
                self.assertIs(type(reason_against(point, point.moved(move))), Congruence)

    def test_after_flips(self):
        maker = Random(57)
        for start in starts():
            for count in (1, 2, 5, 40):
                goal = start.flipped(*[maker.randrange(len(start.points)) for _ in range(count)])
                self.assertTrue(flips_lead(start, goal))
                self.assertIsNone(reason_against(start, goal))
                self.assertIsNone(reason_against(goal, start))
                for reason in NO_REASON + tuple(StickCount(stick) for stick in start.sticks):
                    self.assertIs(reason.holds(start, goal), False)
                    self.assertIs(reason.holds(goal, start), False)

    def test_all_near_polygons(self):
        """All that a few flips reach, found by search, and what lies between."""
        triangle = Polygon((0, 0), (3, 0), (0, 3))
        found = {triangle.points}
        for _ in range(9):
            found |= {Polygon(*points).flipped(joint).points for points in found for joint in range(3)}
        for x in range(-4, 5):
            for y in range(-4, 5):
                goal = triangle.moved((x, y))
                self.assertEqual(reason_against(triangle, goal) is None, goal.points in found)

    def test_the_arguments_stay(self):
        start, goal = Polygon(*simple_points(4)), Polygon(*simple_points(4)[::-1])
        first = reason_against(start, goal)
        self.assertEqual(reason_against(goal=goal, start=start), first)
        self.assertEqual(start.points, simple_points(4))
        self.assertEqual(goal.points, simple_points(4)[::-1])

    def test_defined_in_its_file(self):
        self.assertEqual(reason_against.__module__, "walkagon.reach.reasons")


if __name__ == "__main__":
    unittest.main()
