"""The errors of walkers: what each one stores, and that the walker is as before."""

import unittest
from random import Random

from tests.goals import any_goal, starts
from tests.lattices import known_reason
from tests.rows import any_joints
from tests.samples import SIDES, simple_points, wrong_joints
from walkagon import errors
from walkagon.errors import BadJoint, BadPolygon, BadScript, BadText, TooFew, Unreachable, UnknownField
from walkagon.reach.reasons import Congruence, JointCount, StickCount, reason_against
from walkagon.shapes.polygons import Polygon
from walkagon.walker import Walker

WRONG_NAMES = ("width", "Area", "areas", "joint_counts", "name", "count", "polygon", "history", "busy", "_polygon",
               "points", "wanted", "stick_vector")
# Each with the index that BadScript stores, for any number of joints.
WRONG_SCRIPTS = ((" ", 0), ("0 ", 1), ("(", 1), (")", 0), ("0 1 8", 2), ("( 0 )*01", 2), ("0*1000000000000000001", 0),
                 ("( ( ( ( ( ( ( 0 ) ) ) ) ) ) )", 6), ("0 1\n2", 1), ("0,1", 0), ("~( 0 1", 3))
RIGHT_SCRIPTS = ("0", "", "( 1 2 )*3", "~( 0 2 )*1000000000000000000", "1*0")


class ErrorCase(unittest.TestCase):
    def assert_fails(self, walker, call, kind, **stored):
        """The call raises this error, which stores this, and leaves the walker as it was."""
        polygon, history = walker.polygon, walker.history
        with self.assertRaises(errors.WalkError) as caught:
            call()
        self.assertIs(type(caught.exception), kind)
        self.assertEqual(vars(caught.exception), stored)
        self.assertEqual(walker.polygon, polygon)
        self.assertEqual(walker.history, history)
        self.assertEqual(len(walker), len(history))
        self.assertIsNone(walker.busy)

    def walkers(self):
        """Walkers of all numbers of joints, with and without a history."""
        for sides in SIDES:
            yield Walker(Polygon(*simple_points(sides)))
            walker = Walker(Polygon(*simple_points(sides)))
            walker.flip(0, 2)
            walker.run("1", "( 2 0 )*5")
            yield walker


class AtTest(unittest.TestCase):
    def assert_fails(self, text, kind, index):
        with self.subTest(text=text):
            with self.assertRaises(errors.WalkError) as caught:
                Walker.at(text)
            self.assertIs(type(caught.exception), kind)
            self.assertEqual(caught.exception.index, index)

    def test_texts(self):
        for text, index in (("", 0), (" 0,0 1,0 0,1", 0), ("0,0 1,0 0,1 ", 3), ("0,0  1,0 0,1", 1), ("0,0 1;0 0,1", 1),
                            ("0,0 1,0 0,01", 2), ("x", 0), ("0,0 -0,1", 1), ("1,2 " * 9 + "1,2,3", 9)):
            self.assert_fails(text, BadText, index)

    def test_numbers_of_points(self):
        for count in (1, 2):
            self.assert_fails(" ".join(["1,2"] * count), BadPolygon, count)
        for count in (9, 10, 12):
            self.assert_fails(" ".join(["1,2"] * count), BadPolygon, 8)


class FlipTest(ErrorCase):
    def test_a_wrong_joint_at_each_place(self):
        maker = Random(191)
        for walker in self.walkers():
            sides = len(walker.polygon.points)
            for wrong in wrong_joints(sides):
                for before in range(4):
                    joints = any_joints(maker, sides, before) + (wrong,) + any_joints(maker, sides, 2)
                    self.assert_fails(walker, lambda: walker.flip(*joints), BadJoint, joint=wrong)

    def test_the_first_of_two_wrong_joints(self):
        for walker in self.walkers():
            sides = len(walker.polygon.points)
            self.assert_fails(walker, lambda: walker.flip(0, sides + 1, 1, -1), BadJoint, joint=sides + 1)
            self.assert_fails(walker, lambda: walker.flip(-1, sides), BadJoint, joint=-1)


class RunTest(ErrorCase):
    def test_a_wrong_script_at_each_place(self):
        for walker in self.walkers():
            for wrong, index in WRONG_SCRIPTS:
                for place in range(len(RIGHT_SCRIPTS) + 1):
                    scripts = RIGHT_SCRIPTS[:place] + (wrong,) + RIGHT_SCRIPTS[place:]
                    self.assert_fails(walker, lambda: walker.run(*scripts), BadScript, index=index)

    def test_a_wrong_joint_at_each_place(self):
        for walker in self.walkers():
            sides = len(walker.polygon.points)
            for joint in range(sides, 8):
                for wrong in (str(joint), f"0 {joint}*2 7", f"( 1 {joint} )*0", f"~( ( {joint} )*0 )"):
                    for place in range(len(RIGHT_SCRIPTS) + 1):
                        scripts = RIGHT_SCRIPTS[:place] + (wrong,) + RIGHT_SCRIPTS[place:]
                        self.assert_fails(walker, lambda: walker.run(*scripts), BadJoint, joint=joint)

    def test_the_first_of_two_wrong_scripts(self):
        walker = Walker.at("0,0 1,0 0,1")
        self.assert_fails(walker, lambda: walker.run("0", "0 5", "x"), BadJoint, joint=5)
        self.assert_fails(walker, lambda: walker.run("0", "x", "0 5"), BadScript, index=0)
        self.assert_fails(walker, lambda: walker.run("0 1 2 (", ")"), BadScript, index=4)
        self.assert_fails(walker, lambda: walker.run("7 x", "4"), BadScript, index=1)
        self.assert_fails(walker, lambda: walker.run("4", "7 x"), BadJoint, joint=4)

    def test_right_scripts_after_an_error(self):
        walker = Walker.at("0,0 1,0 0,1")
        self.assert_fails(walker, lambda: walker.run("0", "0 ("), BadScript, index=2)
        self.assertEqual(walker.run("0"), Polygon((1, 1), (1, 0), (0, 1)))
        self.assertEqual(len(walker), 1)


class WalkToTest(ErrorCase):
    def assert_unreachable(self, walker, goal):
        start = walker.polygon
        reason = reason_against(start, goal)
        self.assertIs(reason.holds(start, goal), True)
        self.assert_fails(walker, lambda: walker.walk_to(goal), Unreachable, reason=reason)

    def test_goals_that_no_flips_lead_to(self):
        maker = Random(192)
        found = starts()
        tried = 0
        for start in found:
            walker = Walker(start)
            walker.walk_to(any_goal(maker, start, 5))
            current = walker.polygon
            for goal in (current.moved((1, 0)), current.moved((0, -1)), any_goal(maker, current, 9).moved((1, 1)),
                         maker.choice(found)):
                if known_reason(current, goal) is None:
                    self.assertEqual(walker.walk_to(goal), goal)
                    walker.undo()
                else:
                    self.assert_unreachable(walker, goal)
                    tried += 1
        self.assertGreater(tried, 100)

    def test_each_kind_of_reason(self):
        square = Polygon((0, 0), (1, 0), (1, 1), (0, 1))
        walker = Walker(square)
        for goal, kind in ((Polygon((0, 0), (1, 0), (0, 1)), JointCount), (square.moved((1, 0)), Congruence),
                           (Polygon((0, 0), (1, 0), (2, 1), (1, 1)), StickCount)):
            self.assertIs(type(reason_against(square, goal)), kind)
            self.assert_unreachable(walker, goal)


class UndoTest(ErrorCase):
    def test_too_few_entries(self):
        for walker in self.walkers():
            entries = len(walker.history)
            for count in (entries + 1, entries + 2, 10 ** 18):
                self.assert_fails(walker, lambda: walker.undo(count=count), TooFew, count=entries)

    def test_count_omitted(self):
        walker = Walker.at("0,0 1,0 0,1")
        self.assert_fails(walker, walker.undo, TooFew, count=0)
        walker.flip(0)
        walker.undo()
        self.assert_fails(walker, walker.undo, TooFew, count=0)


class DescribeTest(ErrorCase):
    def test_unknown_names(self):
        for walker in self.walkers():
            for name in WRONG_NAMES:
                for value in (True, False):
                    self.assert_fails(walker, lambda: walker.describe(**{name: value}), UnknownField, name=name)

    def test_unknown_names_between_right_ones(self):
        walker = Walker.at("0,0 1,0 0,1")
        right = (("area", True), ("entries", False), ("position", True), ("joint_count", True))
        for name in WRONG_NAMES:
            for value in (True, False):
                for place in range(5):
                    wanted = dict(right[:place] + ((name, value),) + right[place:])
                    self.assert_fails(walker, lambda: walker.describe(**wanted), UnknownField, name=name)

    def test_the_first_of_two_unknown_names(self):
        walker = Walker.at("0,0 1,0 0,1")
        self.assert_fails(walker, lambda: walker.describe(area=True, width=False, height=True), UnknownField,
                          name="width")
        self.assert_fails(walker, lambda: walker.describe(height=True, width=True, area=True), UnknownField,
                          name="height")


if __name__ == "__main__":
    unittest.main()
