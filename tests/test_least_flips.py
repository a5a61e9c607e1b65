"""The least numbers of flips between plane triangles and between plane quadrilaterals: `least_flips`."""

import unittest
from random import Random

from tests.corners import (SMALL_SHAPES, SIZES, any_shape, mirrored, moved_far, near_pairs, renumbered, reversed_joints,
                           turned)
from tests.goals import after_flips, any_goal
from tests.passes import least_passes
from tests.rows import any_places
from tests.samples import FAR
from tests.search import least_tuples
from walkagon.least import numbers
from walkagon.least.numbers import least_flips
from walkagon.shapes.polygons import Polygon
from walkagon.shifts.shift import Shift

TRIANGLE = Polygon((0, 0), (1, 0), (0, 1))
SQUARE = Polygon((0, 0), (1, 0), (1, 1), (0, 1))


def pairs(seed, count):
    """Shapes of all sizes with goals at all distances."""
    maker = Random(seed)
    for sides in (3, 4):
        for size in SIZES:
            for most in (0, 1, 2, 30, 10 ** 4, 10 ** 10):
                for _ in range(count):
                    start = any_shape(maker, sides, size)
                    yield maker, start, any_goal(maker, start, most)


class NearTest(unittest.TestCase):
    def test_all_near_goals(self):
        for start, goal, joints in near_pairs():
            with self.subTest(start=start, goal=goal):
                found = least_flips(start, goal)
                self.assertIs(type(found), int)
                self.assertEqual(found, len(joints))

    def test_known_numbers(self):
        for start, move, count in (
                (TRIANGLE, (0, 0), 0), (TRIANGLE, (1, 1), 4), (TRIANGLE, (-1, 2), 4), (TRIANGLE, (0, 3), 6),
                (TRIANGLE, (0, 3 * 10 ** 10), 6 * 10 ** 10), (SQUARE, (1, 1), 6), (SQUARE, (2, 0), 6),
                (SQUARE, (2 * 10 ** 9, 0), 6 * 10 ** 9)):
            with self.subTest(start=start, move=move):
                self.assertEqual(least_flips(start, start.moved(move)), count)

    def test_zero_for_equal_polygons_only(self):
        for _, start, goal in pairs(141, 3):
            self.assertEqual(least_flips(start, start), 0)
            self.assertEqual(least_flips(start, Polygon(*start.points)), 0)
            self.assertEqual(least_flips(start, goal) == 0, start.points == goal.points)


class FarTest(unittest.TestCase):
    def test_another_way(self):
        for _, start, goal in pairs(142, 12):
            with self.subTest(start=start, goal=goal):
                self.assertEqual(least_flips(start, goal), least_passes(start, goal))

    def test_equal_sticks_zero_sticks_and_parallelograms(self):
        maker = Random(143)
        for shape in SMALL_SHAPES:
            start = Polygon(*shape)
            for most in (3, 30, 500, 10 ** 10):
                for _ in range(8):
                    goal = any_goal(maker, start, most)
                    with self.subTest(start=start, goal=goal):
                        self.assertEqual(least_flips(start, goal), least_passes(start, goal))

    def test_from_one_end_to_the_other(self):
        for shape in SMALL_SHAPES:
            start = Polygon(*shape).moved((-FAR, -FAR))
            for move in ((2 * FAR, 0), (0, 2 * FAR), (2 * FAR, 2 * FAR), (2 * FAR, 2 * FAR - 2)):
                goal = start.moved(move)
                number = least_passes(start, goal)
                if number is not None:
                    self.assertEqual(least_flips(start, goal), number)

    def test_far_points(self):
        maker = Random(144)
        for sides in (3, 4):
            for _ in range(30):
                start = any_shape(maker, sides, FAR)
                for goal in (after_flips(maker, start, 30), any_goal(maker, start, 1), any_goal(maker, start, 9)):
                    self.assertEqual(least_flips(start, goal), least_passes(start, goal))

    def test_a_shift_of_a_triangle_has_as_many_passes(self):
        maker = Random(145)
        for size in SIZES:
            for turns in (0, 1, 5, 1000, 10 ** 10):
                for _ in range(6):
                    start = any_shape(maker, 3, size)
                    shift = Shift(*any_places(maker, 3, turns))
                    self.assertEqual(least_flips(start, shift.apply(start)), shift.passes)

    def test_a_shift_of_a_quadrilateral_has_no_fewer_passes(self):
        maker = Random(146)
        below = 0
        for size in SIZES:
            for turns in (0, 1, 5, 1000, 10 ** 10):
                for _ in range(6):
                    start = any_shape(maker, 4, size)
                    shift = Shift(*any_places(maker, 4, turns))
                    found = least_flips(start, shift.apply(start))
                    self.assertLessEqual(found, shift.passes)
                    below += found < shift.passes
        self.assertGreater(below, 0)


class DistanceTest(unittest.TestCase):
    def test_each_flip_changes_the_number_by_at_most_one(self):
        for _, start, goal in pairs(147, 5):
            number = least_flips(start, goal)
            changes = []
            for joint in range(len(start.points)):
                changes.append(least_flips(start.flipped(joint), goal) - number)
                changes.append(least_flips(start, goal.flipped(joint)) - number)
            with self.subTest(start=start, goal=goal):
                self.assertLessEqual(max(changes), 1)
                self.assertGreaterEqual(min(changes), -1)
                if number > 0:
                    self.assertEqual(min(changes[::2]), -1)
                    self.assertEqual(min(changes[1::2]), -1)

    def test_the_same_in_both_directions(self):
        for _, start, goal in pairs(148, 8):
            self.assertEqual(least_flips(start, goal), least_flips(goal, start))

    def test_after_moving_or_mirroring_or_renumbering_both(self):
        for maker, start, goal in pairs(149, 5):
            number = least_flips(start, goal)
            for change in (moved_far, mirrored, turned, renumbered, reversed_joints):
                with self.subTest(start=start, goal=goal, change=change.__name__):
                    self.assertEqual(least_flips(change(start), change(goal)), number)

    def test_at_most_the_sum_over_a_third_polygon(self):
        for maker, start, goal in pairs(150, 5):
            for most in (1, 30, 10 ** 10):
                third = any_goal(maker, start, most)
                self.assertLessEqual(least_flips(start, goal), least_flips(start, third) + least_flips(third, goal))

    def test_no_more_than_the_flips_that_were_played(self):
        maker = Random(151)
        for sides in (3, 4):
            for size in SIZES:
                for count in (1, 2, 7, 40):
                    start = any_shape(maker, sides, size)
                    found = least_flips(start, after_flips(maker, start, count))
                    self.assertLessEqual(found, count)

    def test_the_arguments_stay(self):
        start, goal = SQUARE, SQUARE.moved((7, 3))
        first = least_flips(start, goal)
        self.assertEqual(least_flips(goal=goal, start=start), first)
        self.assertEqual(start.points, ((0, 0), (1, 0), (1, 1), (0, 1)))
        self.assertEqual(goal.points, ((7, 3), (8, 3), (8, 4), (7, 4)))


class InterfaceTest(unittest.TestCase):
    def test_defined_in_its_file(self):
        self.assertEqual(least_flips.__module__, "walkagon.least.numbers")
        self.assertEqual(numbers.LIMIT, 500)

    def test_the_other_way_agrees_with_the_search(self):
        """Both ways that the tests above use are the same where both can be used."""
        for shape in SMALL_SHAPES:
            for points, joints in least_tuples(shape, 5).items():
                self.assertEqual(least_passes(Polygon(*shape), Polygon(*points)), len(joints))


if __name__ == "__main__":
    unittest.main()
