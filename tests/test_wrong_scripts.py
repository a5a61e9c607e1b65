"""Strings that are no scripts, and joints that a polygon does not have: BadScript and BadJoint."""

import unittest

from tests.samples import SIDES, simple_points
from walkagon.errors import BadJoint, BadScript
from walkagon.shapes.polygons import Polygon
from walkagon.shifts.language import mean_motion, period, run, script_length, script_shift

MOST = 10 ** 18
# Wrong wherever they stand; none contains a space.
WRONG_TOKENS = (
    "", "8", "9", "10", "01", "00", "-0", "-1", "+1", "a", "x", "0x", "0a", "0,1", "0.", "~", "~0", "~)", "~~(",
    "()", "(0", "0)", "0(", "((", "))", ")(", "(*2", "~(*2", "~(*0", "(*", "[", "{", "0;", "\"0\"",
    "*", "*2", "**", "0*", "0**2", "0*2*2", "0*2*", "~0*2", "8*2", "10*2", "00*2", "a*2",
    "0*01", "0*00", "0*-1", "0*-0", "0*+1", "0*x", "0*2x", "0*x2", "0*1e3", "0*1_0", "0*0x1", "0*1.0", "0*2)", "0*(",
    ")*", ")*01", ")*00", ")*-1", ")*+2", ")*x", ")**2", ")*2*2", ")*2)", ")*2x", "))*2",
    f"0*{MOST + 1}", f")*{MOST + 1}", f"7*{MOST * 10}", ")*" + "9" * 19, "0*" + "9" * 20, ")*" + "1" * 25,
    "0*" + "0" * 20, f"0*0{MOST}", f"0*-{MOST}", "0*" + "7" * 2000,
    "\n", "0\n", "\n0", "0\n1", "(\n", "\n)", ")\n", "0*\n2", "0*2\n", "0*1\n2", ")*2\n", "0\n*2", "~\n(",
)
RIGHT_SCRIPTS = (
    "0", "0 1 2 0", "0*2 1*0 2", "( 0 1 )", "0 ~( 1 ( 2 )*3 )*2 0", "( ( ( ( ( ( 0 ) ) ) ) ) )", f"( 1 )*{MOST}",
)
OPENINGS = ("(", "~(")


class WrongScriptTest(unittest.TestCase):
    def assert_bad_script(self, script, index):
        triangle = Polygon((0, 0), (1, 0), (0, 1))
        for call in (lambda: script_shift(3, script), lambda: script_shift(8, script), lambda: script_length(script),
                     lambda: run(triangle, script), lambda: run(triangle, script, times=0),
                     lambda: period(triangle, script), lambda: mean_motion(triangle, script)):
            with self.subTest(script=script):
                with self.assertRaises(BadScript) as caught:
                    call()
                self.assertEqual(caught.exception.index, index)
                self.assertIs(type(caught.exception.index), int)

    def test_a_wrong_token_at_each_place(self):
        for script in RIGHT_SCRIPTS:
            tokens = script.split(" ")
            for wrong in WRONG_TOKENS:
                for index in range(len(tokens) + 1):
                    changed = " ".join(tokens[:index] + [wrong] + tokens[index:])
                    self.assert_bad_script(changed, index)

    def test_a_wrong_token_instead(self):
        for script in RIGHT_SCRIPTS:
            tokens = script.split(" ")
            for wrong in WRONG_TOKENS:
                for index in range(len(tokens)):
                    changed = " ".join(tokens[:index] + [wrong] + tokens[index + 1:])
                    if changed:
                        self.assert_bad_script(changed, index)

    def test_two_wrong_tokens(self):
        for wrong, other in (("8", "x"), ("", ")"), ("0*01", ""), ("(*2", "8"), ("0\n", ")*x"), ("~", "(")):
            for second in range(1, 7):
                for first in range(second):
                    tokens = ["0", "1", "2", "( )", "2*3", "1", "0"]
                    tokens[first], tokens[second] = wrong, other
                    self.assert_bad_script(" ".join(tokens), first + (1 if first > 3 else 0))

    def test_spaces(self):
        self.assert_bad_script(" ", 0)
        self.assert_bad_script("   ", 0)
        self.assert_bad_script(" 0", 0)
        self.assert_bad_script("0 ", 1)
        self.assert_bad_script("0 1  2", 2)
        self.assert_bad_script("( ", 1)
        self.assert_bad_script("( 0 ) ", 3)
        self.assert_bad_script("( 0 )  ", 3)
        self.assert_bad_script("0 *2", 1)
        self.assert_bad_script("0* 2", 0)
        self.assert_bad_script("( 0 ) *2", 3)
        self.assert_bad_script("~ ( 0 )", 0)

    def test_newlines(self):
        self.assert_bad_script("\n", 0)
        self.assert_bad_script("0\n", 0)
        self.assert_bad_script("0 1\n2", 1)
        self.assert_bad_script("0 1 \n 2", 2)
        self.assert_bad_script("( 0 )\n", 2)

    def test_groups_that_are_not_opened(self):
        for closing in (")", ")*2", ")*0"):
            self.assert_bad_script(closing, 0)
            self.assert_bad_script(f"0 {closing} 1", 1)
            self.assert_bad_script(f"( 0 ) {closing}", 3)
            self.assert_bad_script(f"( ~( ) )*2 {closing} (", 4)
            self.assert_bad_script(f"{closing} (", 0)

    def test_groups_that_are_not_closed(self):
        for opening in OPENINGS:
            for depth in range(1, 7):
                self.assert_bad_script(" ".join([opening] * depth), depth)
                self.assert_bad_script(" ".join([opening] * depth + ["0"]), depth + 1)
                self.assert_bad_script(" ".join([opening] * depth + [")"] * (depth - 1)), 2 * depth - 1)
            self.assert_bad_script(f"0 1 {opening} 2 ( 0 )*2", 7)
            self.assert_bad_script(f"( ) {opening}", 3)

    def test_a_wrong_token_in_a_group_that_is_not_closed(self):
        self.assert_bad_script("( 0 8", 2)
        self.assert_bad_script("( ( 0 ) 0* 1", 4)

    def test_seven_deep(self):
        for opening in OPENINGS:
            self.assertEqual(script_length(" ".join([opening] * 6 + ["0"] + [")"] * 6)), 1)
            for depth in (7, 8, 20):
                self.assert_bad_script(" ".join([opening] * depth + ["0"] + [")"] * depth), 6)
                self.assert_bad_script(" ".join([opening] * depth), 6)
            self.assert_bad_script(" ".join(["0", "(", "1", ")"] + [opening] * 7 + [")"] * 7), 10)
            self.assert_bad_script(" ".join(["("] * 6 + [")", "~("] + [opening] + [")"] * 7), 8)

    def test_many_groups_side_by_side(self):
        self.assertEqual(script_length(" ".join(["( ( 0 )", ")*2"] * 20)), 40)

    def test_the_largest_count(self):
        for count in (0, 1, 9, 10, MOST - 1, MOST):
            self.assertEqual(script_length(f"0*{count}"), count)
            self.assertEqual(script_length(f"( 0 1 )*{count}"), 2 * count)
        for count in (MOST + 1, MOST + 10 ** 17, 2 * MOST, 10 * MOST, 10 ** 100, 10 ** 2900):
            self.assert_bad_script(f"0*{count}", 0)
            self.assert_bad_script(f"( 0 )*{count}", 2)

    def test_the_empty_script_is_right(self):
        self.assertEqual(script_length(""), 0)


class WrongJointTest(unittest.TestCase):
    def assert_bad_joint(self, sides, script, joint):
        polygon = Polygon(*simple_points(sides))
        for call in (lambda: script_shift(sides, script), lambda: run(polygon, script),
                     lambda: run(polygon, script, times=0), lambda: run(polygon, script, times=-MOST),
                     lambda: period(polygon, script), lambda: mean_motion(polygon, script)):
            with self.subTest(sides=sides, script=script):
                with self.assertRaises(BadJoint) as caught:
                    call()
                self.assertEqual(caught.exception.joint, joint)
                self.assertIs(type(caught.exception.joint), int)

    def test_each_joint(self):
        for sides in SIDES:
            for joint in range(8):
                for script in ("{}", "0 {}", "{} 1", "{}*2", "{}*0", "( {} )*0", "( {} )", "~( 1 ( 0 {} )*0 )*3",
                               "( ( ( ( ( ( {} ) ) ) ) ) )*0 0", "( 0 1 )*2 {}*5"):
                    written = script.format(joint)
                    if joint < sides:
                        self.assertEqual(len(script_shift(sides, written)), sides)
                    else:
                        self.assert_bad_joint(sides, written, joint)

    def test_the_first_in_the_order_of_the_string(self):
        self.assert_bad_joint(3, "0 7 3", 7)
        self.assert_bad_joint(3, "3 7", 3)
        self.assert_bad_joint(3, "~( 5 4 )", 5)
        self.assert_bad_joint(3, "~( 1 ~( 6 ) 4 )*2 3", 6)
        self.assert_bad_joint(4, "( 5 )*0 4", 5)
        self.assert_bad_joint(4, "7*0 4*2", 7)
        self.assert_bad_joint(7, "0 1 2 3 4 5 6 7", 7)

    def test_no_script_before_a_wrong_joint(self):
        polygon = Polygon(*simple_points(4))
        for script, index in (("7 8", 1), ("7 (", 2), ("7 )", 1), ("( 5 )*01", 2), ("4 ", 1), ("4 5 6 7 0*x", 4),
                              ("7 ( ( ( ( ( ( (", 7)):
            for call in (lambda: script_shift(4, script), lambda: run(polygon, script),
                         lambda: period(polygon, script), lambda: mean_motion(polygon, script)):
                with self.assertRaises(BadScript) as caught:
                    call()
                self.assertEqual(caught.exception.index, index)

    def test_the_length_asks_for_no_polygon(self):
        self.assertEqual(script_length("7 6*2 ( 5 3 )*4"), 11)


if __name__ == "__main__":
    unittest.main()
