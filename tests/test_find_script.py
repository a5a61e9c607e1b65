"""Scripts that lead from one polygon to another one: `find_script`."""

import unittest
from random import Random

from tests.goals import after_flips, any_goal, shuffled, starts
from tests.lattices import differences, flips_lead, known_reason
from tests.rows import FAR_COUNT, moved_points, places_of, tree_of
from tests.samples import FAR, SIDES, all_samples, far_points, simple_points
from walkagon.errors import Unreachable
from walkagon.reach.reasons import Congruence, JointCount, StickCount, reason_against
from walkagon.reach.routes import find_script
from walkagon.shapes.polygons import Polygon
from walkagon.shifts.language import run

OFTEN = (10 ** 4, 10 ** 6, 10 ** 14)
SQUARE = Polygon((0, 0), (1, 0), (1, 1), (0, 1))


class FindScriptTest(unittest.TestCase):
    def assert_leads(self, start, goal):
        with self.subTest(start=start, goal=goal):
            script = find_script(start, goal)
            self.assertIs(type(script), str)
            self.assertLessEqual(len(script), 3000)
            self.assertEqual(script == "", start.points == goal.points)
            self.assertEqual(run(start, script), goal)
            places = places_of(len(start.points), tree_of(script, len(start.points)))
            self.assertEqual(moved_points(start.points, places), goal.points)

    def assert_unreachable(self, start, goal):
        with self.subTest(start=start, goal=goal):
            with self.assertRaises(Unreachable) as caught:
                find_script(start, goal)
            self.assertIs(type(caught.exception), Unreachable)
            self.assertIs(caught.exception.reason.holds(start, goal), True)

    def assert_answer(self, start, goal):
        """Returns whether flips lead there."""
        leads = flips_lead(start, goal)
        if leads:
            self.assert_leads(start, goal)
        else:
            self.assert_unreachable(start, goal)
        return leads

    def test_after_flips(self):
        maker = Random(131)
        for start in starts():
            for count in (1, 2, 3, 10, 60):
                goal = after_flips(maker, start, count)
                self.assert_leads(start, goal)
                self.assert_leads(goal, start)

    def test_sticks_in_any_order(self):
        maker = Random(132)
        for start in starts():
            for _ in range(3):
                goal = shuffled(maker, start, (0, 0))
                self.assert_leads(start, goal)
                self.assert_leads(goal, start)

    def test_moved_by_differences_of_sticks(self):
        maker = Random(133)
        for start in starts():
            for most in (1, 5, *OFTEN):
                goal = any_goal(maker, start, most)
                self.assert_leads(start, goal)
                self.assert_leads(goal, start)

    def test_one_difference_very_often(self):
        maker = Random(134)
        for points in all_samples():
            start = Polygon(*points)
            for x, y in differences(start.sticks):
                often = maker.choice(OFTEN) * maker.choice((-1, 1)) + maker.randint(-1, 1)
                self.assert_leads(start, start.moved((often * x, often * y)))
                self.assert_leads(start, shuffled(maker, start, (x, y)))

    def test_far_polygons(self):
        maker = Random(135)
        for sides in SIDES:
            for _ in range(30):
                start = Polygon(*far_points(maker, sides))
                for goal in (after_flips(maker, start, 40), shuffled(maker, start, (0, 0)), any_goal(maker, start, 2)):
                    self.assert_leads(start, goal)
                    self.assert_leads(goal, start)

    def test_from_one_end_to_the_other(self):
        """Small sticks and coordinates of 10 ** 15."""
        for sides in SIDES:
            start = Polygon(*simple_points(sides)).moved((-FAR, -FAR))
            for move in ((FAR, FAR), (2 * FAR - 10, 2 * FAR - 10), (2 * FAR - 12, 0), (1, FAR)):
                self.assert_answer(start, start.moved(move))
        for move in ((2 * FAR, 2 * FAR), (2 * FAR, -2 * FAR), (0, 2 * FAR), (2 * FAR - 1, 1)):
            self.assert_leads(SQUARE, SQUARE.moved(move))

    def test_equal_polygons(self):
        for start in starts():
            self.assertEqual(find_script(start, start), "")
            self.assertEqual(find_script(start, Polygon(*start.points)), "")

    def test_equal_sticks_exchanged(self):
        start = Polygon.from_sticks((3, 4), (1, 0), (1, 0), (-2, 1), (1, 0), (-1, -1))
        self.assertEqual(find_script(start, start.flipped(1)), "")
        self.assert_leads(start, start.flipped(0))
        self.assert_leads(start, start.flipped(1, 2, 3))

    def test_one_coordinate_changed(self):
        maker = Random(136)
        found = {True: 0, False: 0}
        for start in starts():
            for most in (0, 3, 10 ** 6, 10 ** 14):
                goal = any_goal(maker, start, most)
                for change in ((1, 0), (0, -1), (2, 3)):
                    found[self.assert_answer(start, goal.moved(change))] += 1
        self.assertGreater(found[True], 100)
        self.assertGreater(found[False], 100)

    def test_any_two(self):
        maker = Random(137)
        found = starts()
        for start in found:
            self.assert_answer(start, maker.choice(found))

    def test_reasons(self):
        maker = Random(138)
        found = starts()
        for start in found:
            for goal in (maker.choice(found), start.moved((1, 0)), start.moved((0, 1)), start.moved((-1, 2))):
                expected = known_reason(start, goal)
                if expected is not None:
                    with self.assertRaises(Unreachable) as caught:
                        find_script(start, goal)
                    self.assertEqual(caught.exception.reason, reason_against(start, goal))
                    self.assertIn(expected, caught.exception.reason.told())

    def test_each_kind_of_reason(self):
        for goal, kind in ((Polygon((0, 0), (1, 0), (0, 1)), JointCount),
                           (Polygon((0, 0), (1, 0), (2, 1), (1, 1)), StickCount),
                           (SQUARE.moved((1, 0)), Congruence)):
            with self.assertRaises(Unreachable) as caught:
                find_script(SQUARE, goal)
            self.assertIs(type(caught.exception.reason), kind)
            self.assert_unreachable(SQUARE, goal)
            self.assert_unreachable(goal, SQUARE)

    def test_one_line(self):
        line = Polygon((0, 0), (2, 4), (-1, -2), (0, 0))
        for move, leads in (((1, 2), True), ((-5, -10), True), ((10 ** 14, 2 * 10 ** 14), True), ((1, 0), False),
                            ((0, 1), False), ((2, 3), False), ((10 ** 14, 10 ** 14), False)):
            self.assertIs(self.assert_answer(line, line.moved(move)), leads)
        upright = Polygon((3, 0), (3, 2), (3, 6))
        for move, leads in (((0, 2), True), ((0, -FAR), True), ((0, 1), False), ((1, 2), False)):
            self.assertIs(self.assert_answer(upright, upright.moved(move)), leads)

    def test_one_point(self):
        for sides in SIDES:
            point = Polygon(*((4, -4),) * sides)
            self.assertEqual(find_script(point, point), "")
            for move in ((1, 0), (0, 1), (FAR, -FAR)):
                self.assert_unreachable(point, point.moved(move))

    def test_other_numbers_of_joints(self):
        for sides in SIDES:
            for other in SIDES:
                if sides != other:
                    with self.assertRaises(Unreachable) as caught:
                        find_script(Polygon(*simple_points(sides)), Polygon(*simple_points(other)))
                    self.assertEqual(caught.exception.reason, JointCount())

    def test_counts_of_more_than_one_number(self):
        """Far polygons whose loops must be played more than 10 ** 18 times."""
        maker = Random(139)
        for sides in SIDES:
            start = Polygon(*simple_points(sides))
            for count in (FAR_COUNT - 1, FAR_COUNT, FAR_COUNT + 1, -FAR_COUNT, 2 * FAR_COUNT, FAR_COUNT ** 2,
                          FAR_COUNT ** 3 - 7):
                x, y = differences(start.sticks)[0]
                self.assert_leads(start, start.moved((count * x, count * y)))
                self.assert_leads(start, any_goal(maker, start, abs(count)))

    def test_the_arguments_stay(self):
        start, goal = Polygon(*simple_points(6)), Polygon(*simple_points(6)).flipped(0, 3, 5, 0, 2)
        points = goal.points
        first = find_script(start, goal)
        self.assertEqual(find_script(goal=goal, start=start), first)
        find_script(goal, start)
        self.assertEqual(find_script(start, goal), first)
        self.assertEqual((start.points, goal.points), (simple_points(6), points))

    def test_defined_in_its_file(self):
        self.assertEqual(find_script.__module__, "walkagon.reach.routes")


if __name__ == "__main__":
    unittest.main()
