"""Shifts: places, windings, passes, printing and equality; what is no shift; the shift of flips."""

import unittest
from itertools import permutations
from random import Random

from tests.rows import any_joints, any_places, passes_of, place_at, played_places
from tests.samples import FAR, SIDES, simple_points
from walkagon.errors import BadJoint, BadPlaces
from walkagon.shapes.polygons import Polygon
from walkagon.shifts import shift as shift_file
from walkagon.shifts.shift import Shift

SIZES = (0, 1, 2, 9, 10 ** 6, 10 ** 30)


def all_places():
    maker = Random(61)
    return [any_places(maker, sides, size) for sides in SIDES for size in SIZES for _ in range(8)]


class LikeShift:
    """Not a shift, although it has the places of one."""

    def __init__(self, places):
        self.places = places


class PlacesTest(unittest.TestCase):
    def test_places(self):
        for places in all_places():
            shift = Shift(*places)
            self.assertEqual(shift.places, places)
            self.assertIs(type(shift.places), tuple)
            self.assertEqual(len(shift), len(places))

    def test_printed(self):
        for places in all_places():
            shift = Shift(*places)
            printed = "Shift(" + ", ".join(str(place) for place in places) + ")"
            self.assertEqual(repr(shift), printed)
            self.assertEqual(str(shift), printed)
            self.assertEqual(f"{shift}", printed)
            self.assertEqual(f"{shift!r} and {shift!s}", printed + " and " + printed)

    def test_windings(self):
        for places in all_places():
            shift = Shift(*places)
            windings = shift.windings
            self.assertIs(type(windings), tuple)
            self.assertEqual(len(windings), len(places))
            for j in range(-len(places), 2 * len(places)):
                self.assertEqual(place_at(windings, place_at(places, j)), j)
            self.assertEqual(shift.windings, windings)
            self.assertEqual(shift.places, places)

    def test_passes(self):
        for places in all_places():
            shift = Shift(*places)
            self.assertEqual(shift.passes, passes_of(shift.windings))
            self.assertIs(type(shift.passes), int)

    def test_known_shifts(self):
        for places, windings, passes in (
                ((0, 1, 2), (0, 1, 2), 0),
                ((-1, 1, 3), (-1, 1, 3), 1),
                ((1, 0, 2), (1, 0, 2), 1),
                ((1, 3, -1), (-2, 0, 5), 3),
                ((-3, 4, 2), (3, -2, 2), 4),
                ((2, 1, 0), (2, 1, 0), 3),
                ((1, 2, 3, 0), (3, 0, 1, 2), 3),
                ((4, 1, 2, -1), (-4, 1, 2, 7), 6)):
            with self.subTest(places=places):
                self.assertEqual(Shift(*places).windings, windings)
                self.assertEqual(Shift(*places).passes, passes)

    def test_each_flip_changes_the_passes_by_one(self):
        maker = Random(62)
        for places in all_places():
            sides = len(places)
            shift = Shift(*places)
            for joint in range(sides):
                flip = Shift.of_joints(sides, (joint,))
                self.assertEqual(abs(shift.then(flip).passes - shift.passes), 1)
                self.assertEqual(abs(flip.then(shift).passes - shift.passes), 1)
        for sides in SIDES:
            joints = any_joints(maker, sides, 60)
            passes = [Shift.of_joints(sides, joints[:end]).passes for end in range(61)]
            for before, after in zip(passes, passes[1:]):
                self.assertEqual(abs(after - before), 1)

    def test_passes_are_the_least_number_of_flips(self):
        for sides, radius in ((3, 12), (4, 7), (5, 5), (6, 4), (7, 4), (8, 3)):
            ring = {tuple(range(sides))}
            seen = set(ring)
            for count in range(radius + 1):
                for places in ring:
                    self.assertEqual(Shift(*places).passes, count)
                ring = {Shift(*places).then(Shift.of_joints(sides, (joint,))).places
                        for places in ring for joint in range(sides)} - seen
                seen |= ring

    def test_equal(self):
        maker = Random(63)
        for places in all_places():
            shift = Shift(*places)
            other = Shift(*any_places(maker, len(places), 1))
            self.assertIs(shift == Shift(*places), True)
            self.assertIs(shift != Shift(*places), False)
            self.assertIs(shift == other, places == other.places)
            self.assertIs(shift != other, places != other.places)
            for alien in (places, list(places), LikeShift(places), None, repr(shift), Polygon(*simple_points(3))):
                self.assertIs(shift == alien, False)
                self.assertIs(alien == shift, False)
                self.assertIs(shift != alien, True)

    def test_different_numbers_of_places(self):
        for sides in SIDES:
            for other in SIDES:
                self.assertIs(Shift.identity(sides) == Shift.identity(other), sides == other)

    def test_interface(self):
        self.assertEqual(shift_file.LIMIT, 5000)
        self.assertEqual(Shift.__module__, "walkagon.shifts.shift")
        for name in ("__init__", "identity", "of_joints", "windings", "passes", "then", "inverse", "power", "apply",
                     "first_joints", "__eq__", "__len__", "__repr__", "__str__"):
            self.assertIn(name, vars(Shift))


class BadPlacesTest(unittest.TestCase):
    def assert_bad(self, *places):
        with self.subTest(places=places), self.assertRaises(BadPlaces):
            Shift(*places)

    def test_too_few(self):
        self.assert_bad()
        for place in (0, 1, -1, FAR):
            self.assert_bad(place)
        for places in ((0, 1), (1, 0), (2, -1), (0, 0), (FAR, 1 - FAR)):
            self.assert_bad(*places)

    def test_too_many(self):
        for sides in range(9, 14):
            self.assert_bad(*range(sides))
            self.assert_bad(*reversed(range(sides)))

    def test_as_many_as_allowed(self):
        for sides in SIDES:
            self.assertEqual(Shift(*range(sides)).places, tuple(range(sides)))
            self.assertEqual(Shift(*reversed(range(sides))).places, tuple(reversed(range(sides))))

    def test_equal_modulo_their_number(self):
        for sides in SIDES:
            for first in range(sides):
                for second in range(first):
                    for turn in (-5, 0, 1, FAR):
                        places = list(range(sides))
                        # The sum stays right.
                        places[first] = places[second] + turn * sides
                        rest = (first + second) % sides
                        places[rest] += sides * (sides - 1) // 2 - sum(places)
                        if len({place % sides for place in places}) < sides:
                            self.assert_bad(*places)
        self.assert_bad(1, 1, 1)
        self.assert_bad(4, 1, -2)
        self.assert_bad(0, 0, 3)
        self.assert_bad(0, 3, 0, 3)

    def test_wrong_sum(self):
        for sides in SIDES:
            for index in range(sides):
                for turns in (-1, 1, 2, -FAR, FAR):
                    places = list(range(sides))
                    places[index] += turns * sides
                    self.assert_bad(*places)
        self.assert_bad(1, 2, 3)
        self.assert_bad(-1, 0, 1)
        self.assert_bad(1, 2, 3, 4)

    def test_small_places(self):
        for sides in (3, 4):
            right = 0
            for places in permutations(range(-sides, 2 * sides), sides):
                different = len({place % sides for place in places}) == sides
                if different and sum(places) == sum(range(sides)):
                    self.assertEqual(Shift(*places).places, places)
                    right += 1
                else:
                    with self.assertRaises(BadPlaces):
                        Shift(*places)
            self.assertGreater(right, 30)


class OfJointsTest(unittest.TestCase):
    def test_identity(self):
        for sides in SIDES:
            self.assertEqual(Shift.identity(sides).places, tuple(range(sides)))
            self.assertEqual(Shift.identity(sides=sides), Shift.of_joints(sides, ()))
            self.assertIs(type(Shift.identity(sides)), Shift)

    def test_one_joint(self):
        for sides in SIDES:
            for joint in range(sides):
                shift = Shift.of_joints(sides, (joint,))
                self.assertEqual(shift.places, played_places(sides, (joint,)))
                self.assertEqual(shift.passes, 1)
        self.assertEqual(Shift.of_joints(3, (0,)).places, (-1, 1, 3))
        self.assertEqual(Shift.of_joints(3, (1,)).places, (1, 0, 2))
        self.assertEqual(Shift.of_joints(4, (3,)).places, (0, 1, 3, 2))

    def test_many_joints(self):
        maker = Random(64)
        for sides in SIDES:
            for count in (2, 3, 10, 100, 3000, 8000):
                joints = any_joints(maker, sides, count)
                shift = Shift.of_joints(joints=joints, sides=sides)
                self.assertIs(type(shift), Shift)
                self.assertEqual(shift.places, played_places(sides, joints))

    def test_the_least_example(self):
        self.assertEqual(Shift.of_joints(3, (0, 1, 2)).places, (1, 3, -1))

    def test_wrong_joints(self):
        for sides in SIDES:
            for count in (1, 2, 6):
                for index in range(count):
                    for wrong in (-1, -sides, sides, sides + 1, 10 * sides, FAR, -FAR):
                        joints = list(range(sides))[:count] + [0] * (count - sides)
                        joints[index] = wrong
                        for rest in ((), (-7, 8), (0, 9, 1)):
                            with self.assertRaises(BadJoint) as caught:
                                Shift.of_joints(sides, (*joints, *rest))
                            self.assertEqual(caught.exception.joint, wrong)

    def test_a_wrong_joint_behind_thousands(self):
        for sides in SIDES:
            with self.assertRaises(BadJoint) as caught:
                Shift.of_joints(sides, (0, 1, 2) * 1500 + (sides, -1))
            self.assertEqual(caught.exception.joint, sides)


if __name__ == "__main__":
    unittest.main()
