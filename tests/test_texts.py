"""The written form of polygons and back, and texts that are none."""

import unittest

from tests.samples import SIDES, all_samples, simple_points
from walkagon.errors import BadPolygon, BadText
from walkagon.shapes.polygons import Polygon

WRONG_PARTS = (
    "", ",", "1", "1,", ",1", "1,2,3", "1,,2", ",1,2", "1,2,", "1;2", "1.2",
    "01,2", "1,02", "00,0", "0,00", "-01,2", "1,-02", "-0,1", "1,-0", "-00,1",
    "+1,2", "1,+2", "+0,0", "-+1,2", "--1,2", "1,--2", "-,1", "1,-", "-", "1-,2", "1,2-", "1-2,3",
    "a,1", "1,b", "x", "1a,2", "1,2a", "1e2,3", "1_0,2", "0x1,2", "(1,2)", "(1,", "1.0,2", "~,!",
    "\n", "1,2\n", "\n1,2", "1\n,2", "1,\n2", "1,2\n3,4", "-\n1,2",
)


class TextTest(unittest.TestCase):
    def assert_bad_text(self, text, index):
        with self.subTest(text=text):
            with self.assertRaises(BadText) as caught:
                Polygon.parse(text)
            self.assertEqual(caught.exception.index, index)

    def assert_bad_polygon(self, text, index):
        with self.subTest(text=text):
            with self.assertRaises(BadPolygon) as caught:
                Polygon.parse(text)
            self.assertEqual(caught.exception.index, index)

    def test_written_form_and_back(self):
        for points in all_samples():
            with self.subTest(points=points):
                polygon = Polygon.parse(Polygon(*points).text)
                self.assertIsInstance(polygon, Polygon)
                self.assertEqual(polygon.points, points)

    def test_known_texts(self):
        for text, points in (
                ("0,0 1,0 0,1", ((0, 0), (1, 0), (0, 1))),
                ("-1,10 -20,-300 0,-1 9,100", ((-1, 10), (-20, -300), (0, -1), (9, 100))),
                ("0,0 0,0 0,0", ((0, 0),) * 3),
                ("1000000000000000,-1000000000000000 1,1 2,1",
                 ((10 ** 15, -(10 ** 15)), (1, 1), (2, 1)))):
            self.assertEqual(Polygon.parse(text).points, points)
            self.assertEqual(Polygon.parse(text=text).text, text)

    def test_a_wrong_part_at_each_place(self):
        for sides in SIDES:
            parts = Polygon(*simple_points(sides)).text.split(" ")
            for wrong in WRONG_PARTS:
                for index in range(sides):
                    self.assert_bad_text(" ".join(parts[:index] + [wrong] + parts[index + 1:]), index)

    def test_two_wrong_parts(self):
        for wrong, other in (("", "x"), ("01,2", ""), ("1,2,3", "-0,1"), ("1\n,2", "+1,2")):
            for second in range(1, 8):
                for first in range(second):
                    parts = ["1,2"] * 8
                    parts[first], parts[second] = wrong, other
                    self.assert_bad_text(" ".join(parts), first)

    def test_empty_text(self):
        self.assert_bad_text("", 0)

    def test_only_spaces(self):
        for count in range(1, 5):
            self.assert_bad_text(" " * count, 0)

    def test_spaces_at_an_end(self):
        self.assert_bad_text(" 0,0 1,0 0,1", 0)
        self.assert_bad_text("  0,0 1,0 0,1", 0)
        self.assert_bad_text("0,0 1,0 0,1 ", 3)
        self.assert_bad_text("0,0 1,0 0,1  ", 3)

    def test_two_spaces_in_a_row(self):
        self.assert_bad_text("0,0  1,0 0,1", 1)
        self.assert_bad_text("0,0 1,0  0,1", 2)
        self.assert_bad_text("0,0 1,0   0,1", 2)

    def test_newlines_split_nothing(self):
        self.assert_bad_text("0,0\n1,0\n0,1", 0)
        self.assert_bad_text("0,0 1,0\n0,1", 1)
        self.assert_bad_text("0,0 1,0 0,1\n", 2)

    def test_a_space_behind_the_comma(self):
        self.assert_bad_text("0,0 1, 0 0,1", 1)
        self.assert_bad_text("0 ,0 1,0 0,1", 0)

    def test_too_few_right_parts(self):
        self.assert_bad_polygon("5,5", 1)
        self.assert_bad_polygon("5,5 6,6", 2)

    def test_too_many_right_parts(self):
        for count in range(9, 13):
            self.assert_bad_polygon(" ".join(["1,2"] * count), 8)

    def test_wrong_parts_before_a_wrong_number_of_them(self):
        self.assert_bad_text("x", 0)
        self.assert_bad_text("1,2 x", 1)
        for index in range(11):
            parts = ["1,2"] * 11
            parts[index] = "1,02"
            self.assert_bad_text(" ".join(parts), index)

    def test_long_numbers(self):
        long_number = "9" * 900
        text = f"{long_number},0 0,-{long_number} 1,1"
        self.assertEqual(Polygon.parse(text).points[0][0], 10 ** 900 - 1)
        self.assertEqual(Polygon.parse(text).text, text)


if __name__ == "__main__":
    unittest.main()
