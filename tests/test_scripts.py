"""Right scripts: `script_shift`, `script_length` and `run` agree with the flips written out."""

import unittest
from random import Random

from tests.rows import FAR_COUNT, any_tree, flips_of, length_of, nested_tree, places_of, played_places, powered, text_of
from tests.samples import SIDES, all_samples, simple_points
from walkagon.shapes.polygons import Polygon
from walkagon.shifts import language
from walkagon.shifts.language import run, script_length, script_shift
from walkagon.shifts.shift import Shift

SMALL_COUNTS = (None, None, 0, 1, 2, 3)
LARGE_COUNTS = (None, 0, 1, 2, 10, 987654321, 10 ** 17 + 1, FAR_COUNT - 1, FAR_COUNT)
KNOWN_SCRIPTS = (
    ("", ()), ("0", (0,)), ("0 1 2", (0, 1, 2)), ("0*0", ()), ("0*1", (0,)), ("0*2 1*3", (0, 0, 1, 1, 1)),
    ("( )", ()), ("~( )", ()), ("( )*5", ()), ("~( )*0 1", (1,)), ("( ~( ( ) )*3 )", ()),
    ("( 0 1 )", (0, 1)), ("~( 0 1 )", (1, 0)), ("( 0 1 )*0", ()), ("( 0 1 )*3", (0, 1) * 3),
    ("~( 0 1 2 )*2", (2, 1, 0) * 2), ("~( 0 1*2 ~( 1 2 ) )", (1, 2, 1, 1, 0)),
    ("0 ( 1 2 )*2 0", (0, 1, 2, 1, 2, 0)), ("( 0 ( 1 ~( 2 0 )*2 )*2 )", (0, 1, 0, 2, 0, 2, 1, 0, 2, 0, 2)),
    ("( ( ( ( ( ( 2 ) ) ) ) ) )", (2,)), ("~( ~( ~( ~( ~( ~( 0 1 ) ) ) ) ) )", (0, 1)),
    ("( ) ( ) ( ) ( ) ( ) ( ) ( ) 1", (1,)), ("0*11 1*10", (0,) * 11 + (1,) * 10),
)


def small_trees():
    maker = Random(101)
    for sides in SIDES:
        for depth in range(7):
            for _ in range(12):
                yield maker, sides, any_tree(maker, sides, depth, SMALL_COUNTS)
        for _ in range(12):
            yield maker, sides, nested_tree(maker, sides, (None, 1, 2))


class FlipsTest(unittest.TestCase):
    def assert_flips(self, sides, script, joints):
        with self.subTest(sides=sides, script=script):
            shift = script_shift(sides, script)
            self.assertIs(type(shift), Shift)
            self.assertEqual(shift.places, played_places(sides, joints))
            self.assertEqual(script_length(script), len(joints))
            polygon = Polygon(*simple_points(sides))
            self.assertEqual(run(polygon, script), polygon.flipped(*joints))

    def test_known_scripts(self):
        for sides in SIDES:
            for script, joints in KNOWN_SCRIPTS:
                self.assert_flips(sides, script, joints)

    def test_small_scripts(self):
        tried = 0
        for _, sides, tree in small_trees():
            if length_of(tree) <= 2000:
                self.assert_flips(sides, text_of(tree), flips_of(tree))
                tried += 1
        self.assertGreater(tried, 300)

    def test_each_joint(self):
        for sides in SIDES:
            for joint in range(sides):
                self.assert_flips(sides, str(joint), (joint,))
                self.assert_flips(sides, f"{joint}*7", (joint,) * 7)

    def test_a_script_of_three_thousand_characters(self):
        maker = Random(102)
        for sides in (3, 8):
            joints = tuple(maker.randrange(sides) for _ in range(1500))
            self.assert_flips(sides, " ".join(str(joint) for joint in joints), joints)
            script = "( " * 6 + " ".join(["0 1*2"] * 490) + " )*2" + " )" * 5
            self.assertLessEqual(len(script), 3000)
            self.assert_flips(sides, script, (0, 1, 1) * 980)
            self.assert_flips(sides, " ".join(["~( 0 2 )"] * 333), (2, 0) * 333)

    def test_a_script_of_more_than_three_thousand_characters(self):
        script = " ".join(["( 0 1*2 )*2"] * 500)
        self.assertGreater(len(script), 3000)
        self.assert_flips(5, script, (0, 1, 1) * 1000)

    def test_any_polygon(self):
        maker = Random(103)
        for points in all_samples():
            polygon = Polygon(*points)
            tree = any_tree(maker, len(points), 3, SMALL_COUNTS)
            self.assertEqual(run(polygon, text_of(tree)), polygon.flipped(*flips_of(tree)))
            self.assertEqual(polygon.points, points)


class LargeCountTest(unittest.TestCase):
    def test_large_counts(self):
        maker = Random(104)
        for sides in SIDES:
            for _ in range(30):
                tree = nested_tree(maker, sides, LARGE_COUNTS)
                script = text_of(tree)
                with self.subTest(sides=sides, script=script):
                    self.assertEqual(script_shift(sides, script).places, places_of(sides, tree))
                    self.assertEqual(script_length(script), length_of(tree))

    def test_the_largest_count_on_every_level(self):
        maker = Random(105)
        for sides in SIDES:
            for _ in range(10):
                tree = nested_tree(maker, sides, (FAR_COUNT,))
                self.assertEqual(script_shift(sides, text_of(tree)).places, places_of(sides, tree))
                self.assertEqual(script_length(text_of(tree)), length_of(tree))

    def test_known_numbers(self):
        ends = f" )*{FAR_COUNT}" * 6
        walk = "( ( ( ( ( ( 0 1 2 0 1 2" + ends
        triangle = Polygon((0, 0), (1, 0), (0, 1))
        self.assertEqual(script_length(walk), 6 * 10 ** 108)
        self.assertEqual(run(triangle, walk), triangle.moved((0, 3 * 10 ** 108)))
        self.assertEqual(run(triangle, walk, times=FAR_COUNT), triangle.moved((0, 3 * 10 ** 126)))
        self.assertEqual(run(triangle, walk, times=-FAR_COUNT), triangle.moved((0, -3 * 10 ** 126)))
        self.assertEqual(run(triangle, "~" + walk), triangle.moved((0, -3 * 10 ** 108)))
        self.assertEqual(script_length("~" + walk), 6 * 10 ** 108)
        self.assertEqual(run(triangle, "~( 0 1 2 )*4"), triangle.moved((0, -6)))

    def test_a_flip_very_often(self):
        for count, joints in ((FAR_COUNT, ()), (FAR_COUNT - 1, (1,)), (10 ** 17 + 1, (1,)), (0, ()), (1, (1,))):
            self.assertEqual(script_shift(3, f"1*{count}").places, played_places(3, joints))
            self.assertEqual(script_length(f"1*{count}"), count)
            self.assertEqual(script_length(f"( 1*{count} )*{count} 0"), count * count + 1)

    def test_many_groups_with_large_counts(self):
        script = " ".join([f"( 0 1 2 )*{FAR_COUNT}"] * 100)
        self.assertLessEqual(len(script), 3000)
        self.assertEqual(script_shift(4, script).places, powered(played_places(4, (0, 1, 2)), 100 * FAR_COUNT))
        self.assertEqual(script_length(script), 3 * 100 * FAR_COUNT)


class TimesTest(unittest.TestCase):
    def test_times(self):
        for _, sides, tree in small_trees():
            joints = flips_of(tree)
            if len(joints) <= 60:
                polygon = Polygon(*simple_points(sides))
                script = text_of(tree)
                self.assertEqual(run(polygon, script), polygon.flipped(*joints))
                for times in range(5):
                    self.assertEqual(run(polygon, script, times=times), polygon.flipped(*joints * times))
                    self.assertEqual(run(polygon, script, times=-times),
                                     polygon.flipped(*joints * times, reverse=True))

    def test_many_times(self):
        maker = Random(106)
        for sides in SIDES:
            polygon = Polygon(*simple_points(sides))
            for _ in range(10):
                tree = any_tree(maker, sides, 3, SMALL_COUNTS)
                places = places_of(sides, tree)
                for times in (840, 10 ** 9 + 7, FAR_COUNT - 1, FAR_COUNT, 10 ** 20 + 1):
                    for signed in (times, -times):
                        expected = Shift(*powered(places, signed)).apply(polygon)
                        self.assertEqual(run(polygon, text_of(tree), times=signed), expected)

    def test_the_empty_script(self):
        for points in all_samples():
            for times in (1, 0, -1, FAR_COUNT, -FAR_COUNT):
                self.assertEqual(run(Polygon(*points), "", times=times).points, points)

    def test_by_name(self):
        triangle = Polygon((0, 0), (1, 0), (0, 1))
        self.assertEqual(run(script="0 1", times=2, polygon=triangle), triangle.flipped(0, 1, 0, 1))
        self.assertEqual(script_shift(script="0 1", sides=3), script_shift(3, "0 1"))
        self.assertEqual(script_length(script="0 1"), 2)

    def test_times_is_no_position(self):
        with self.assertRaises(TypeError):
            run(Polygon((0, 0), (1, 0), (0, 1)), "0 1", 2)


class InterfaceTest(unittest.TestCase):
    def test_defined_in_the_file(self):
        for name in ("script_shift", "script_length", "run", "period", "mean_motion"):
            self.assertEqual(getattr(language, name).__module__, "walkagon.shifts.language")


if __name__ == "__main__":
    unittest.main()
