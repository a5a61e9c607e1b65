"""The examples of the document, and those of README.md."""

import doctest
import unittest
from pathlib import Path

from walkagon.errors import NotClosed
from walkagon.least.numbers import first_flips
from walkagon.least.rings import ring_sizes
from walkagon.reach.lattice import combination
from walkagon.reach.reasons import Congruence
from walkagon.shapes.polygons import Polygon
from walkagon.shapes.steps import steps
from walkagon.shifts.language import mean_motion, run
from walkagon.shifts.shift import Shift
from walkagon.walker import Walker

README = Path(__file__).resolve().parent.parent / "README.md"


class DocumentTest(unittest.TestCase):
    def test_flipped(self):
        triangle = Polygon((0, 0), (1, 0), (0, 1))
        self.assertEqual(repr(triangle.flipped(0, 1)), "Polygon((1, 1), (0, 2), (0, 1))")

    def test_parse(self):
        square = Polygon.parse("0,0 1,0 1,1 0,1")
        self.assertEqual(repr([square.sticks, square.double_area]),
                         "[((1, 0), (0, 1), (-1, 0), (0, -1)), 2]")

    def test_from_sticks(self):
        with self.assertRaises(NotClosed) as caught:
            Polygon.from_sticks((5, 5), (1, 0), (0, 1), (0, -1))
        self.assertEqual(caught.exception.rest, (1, 0))

    def test_steps(self):
        self.assertEqual(repr(list(steps(Polygon((0, 0), (1, 0), (0, 1)), (0,)))),
                         "[Polygon((0, 0), (1, 0), (0, 1)), Polygon((1, 1), (1, 0), (0, 1))]")

    def test_combination(self):
        self.assertEqual(repr(combination(((2, 0), (0, 3)), (4, -3))), "(2, -1)")

    def test_reasons(self):
        square = Polygon((0, 0), (1, 0), (1, 1), (0, 1))
        reason = Congruence(1, 1, 2)
        self.assertEqual(repr([reason.holds(square, square.moved((1, 0))), reason.told()]),
                         "[True, 'unreachable: 1*x + 1*y modulo 2']")

    def test_shift(self):
        shift = Shift.of_joints(3, (0, 1, 2))
        self.assertEqual(repr([shift, shift.passes, shift.first_joints()]), "[Shift(1, 3, -1), 3, (0, 1, 2)]")

    def test_mean_motion(self):
        self.assertEqual(repr(mean_motion(Polygon((0, 0), (1, 0), (0, 1)), "0 1 2")), "((0, 1), (3, 2))")

    def test_run(self):
        self.assertEqual(repr(run(Polygon((0, 0), (1, 0), (0, 1)), "( 0 1 2 )*2")),
                         "Polygon((0, 3), (1, 3), (0, 4))")

    def test_first_flips(self):
        triangle = Polygon((0, 0), (1, 0), (0, 1))
        self.assertEqual(repr(first_flips(triangle, triangle.moved((1, 1)))), "(0, 1, 2, 1)")

    def test_ring_sizes(self):
        self.assertEqual(repr(ring_sizes(Polygon((0, 0), (1, 0), (0, 1)), 3)), "(1, 3, 6, 9)")

    def test_walker(self):
        walker = Walker.at("0,0 1,0 0,1")
        flipped = walker.flip(0)
        undone = walker.undo()
        self.assertEqual(repr([flipped, undone]),
                         "[Polygon((1, 1), (1, 0), (0, 1)), Polygon((0, 0), (1, 0), (0, 1))]")
        self.assertEqual(repr([walker.polygon, walker.describe(position=True, entries=True, area=False)]),
                         "[Polygon((0, 0), (1, 0), (0, 1)), {'position': (0, 0), 'entries': 0}]")


class ReadmeTest(unittest.TestCase):
    def test_readme(self):
        failed, tried = doctest.testfile(str(README), module_relative=False)
        self.assertEqual(failed, 0)
        self.assertGreater(tried, 0)


if __name__ == "__main__":
    unittest.main()
