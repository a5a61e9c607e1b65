"""The examples of the document, and those of README.md."""

import doctest
import unittest
from pathlib import Path

from walkagon.errors import NotClosed
from walkagon.shapes.polygons import Polygon
from walkagon.shapes.steps import steps

README = Path(__file__).resolve().parent.parent / "README.md"


class DocumentTest(unittest.TestCase):
    def test_flipped(self):
        triangle = Polygon((0, 0), (1, 0), (0, 1))
        self.assertEqual(repr(triangle.flipped(0, 1)), "Polygon((1, 1), (0, 2), (0, 1))")

    def test_parse(self):
        square = Polygon.parse("0,0 1,0 1,1 0,1")
        self.assertEqual(repr([square.sticks, square.double_area]),
                         "[((1, 0), (0, 1), (-1, 0), (0, -1)), 2]")

    def test_from_sticks(self):
        with self.assertRaises(NotClosed) as caught:
            Polygon.from_sticks((5, 5), (1, 0), (0, 1), (0, -1))
        self.assertEqual(caught.exception.rest, (1, 0))

    def test_steps(self):
        self.assertEqual(repr(list(steps(Polygon((0, 0), (1, 0), (0, 1)), (0,)))),
                         "[Polygon((0, 0), (1, 0), (0, 1)), Polygon((1, 1), (1, 0), (0, 1))]")


class ReadmeTest(unittest.TestCase):
    def test_readme(self):
        failed, tried = doctest.testfile(str(README), module_relative=False)
        self.assertEqual(failed, 0)
        self.assertGreater(tried, 0)


if __name__ == "__main__":
    unittest.main()
