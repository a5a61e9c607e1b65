"""Shifts one after another: `then`, `inverse`, `power`; and `apply`."""

import unittest
from random import Random

from tests.rows import FAR_COUNT, any_joints, any_places, composed, place_at, powered
from tests.samples import SIDES, all_samples
from walkagon.shapes.polygons import Polygon
from walkagon.shifts.shift import Shift

SMALL = range(-20, 21)
LARGE = (100, 840, 10 ** 9, 10 ** 9 + 7, FAR_COUNT - 1, FAR_COUNT, FAR_COUNT + 1, 10 ** 25)


def all_shifts():
    maker = Random(71)
    found = [Shift(*any_places(maker, sides, size)) for sides in SIDES for size in (0, 1, 5, 10 ** 20)
             for _ in range(5)]
    return found + [Shift.of_joints(sides, any_joints(maker, sides, count)) for sides in SIDES
                    for count in (0, 1, 2, 9, 30)]


def other_shift(maker, shift):
    return Shift(*any_places(maker, len(shift.places), maker.choice((0, 1, 4, 10 ** 9))))


def repeated(shift, count):
    """The repetitions one by one."""
    factor = shift if count > 0 else shift.inverse()
    result = Shift.identity(len(shift.places))
    for _ in range(abs(count)):
        result = result.then(factor)
    return result


def doubled(shift, count):
    """The repetitions by doubling, from the first binary digit of the count to the last one."""
    factor = shift if count > 0 else shift.inverse()
    result = Shift.identity(len(shift.places))
    for digit in bin(abs(count))[2:]:
        result = result.then(result)
        if digit == "1":
            result = result.then(factor)
    return result


class ThenTest(unittest.TestCase):
    def test_the_flips_one_after_another(self):
        maker = Random(72)
        for sides in SIDES:
            for count in (0, 1, 2, 7, 50):
                first, second = any_joints(maker, sides, count), any_joints(maker, sides, maker.randint(0, 9))
                after = Shift.of_joints(sides, first).then(Shift.of_joints(sides, second))
                self.assertIs(type(after), Shift)
                self.assertEqual(after, Shift.of_joints(sides, first + second))

    def test_places(self):
        maker = Random(73)
        for shift in all_shifts():
            other = other_shift(maker, shift)
            after = shift.then(other=other)
            for j in range(-9, 9):
                self.assertEqual(place_at(after.places, j), place_at(shift.places, place_at(other.places, j)))

    def test_the_order_matters(self):
        first, second = Shift.of_joints(3, (0,)), Shift.of_joints(3, (1,))
        self.assertEqual(first.then(second), Shift.of_joints(3, (0, 1)))
        self.assertNotEqual(first.then(second), second.then(first))

    def test_groups_do_not_matter(self):
        maker = Random(74)
        for shift in all_shifts():
            second, third = other_shift(maker, shift), other_shift(maker, shift)
            self.assertEqual(shift.then(second).then(third), shift.then(second.then(third)))

    def test_identity(self):
        for shift in all_shifts():
            nothing = Shift.identity(len(shift.places))
            self.assertEqual(shift.then(nothing), shift)
            self.assertEqual(nothing.then(shift), shift)

    def test_itself(self):
        for shift in all_shifts():
            self.assertEqual(shift.then(shift).places, composed(shift.places, shift.places))


class InverseTest(unittest.TestCase):
    def test_inverse(self):
        for shift in all_shifts():
            nothing = Shift.identity(len(shift.places))
            back = shift.inverse()
            self.assertIs(type(back), Shift)
            self.assertEqual(shift.then(back), nothing)
            self.assertEqual(back.then(shift), nothing)
            self.assertEqual(back.inverse(), shift)
            self.assertEqual(back.places, shift.windings)
            self.assertEqual(back.passes, shift.passes)

    def test_flips_in_reverse(self):
        maker = Random(75)
        for sides in SIDES:
            joints = any_joints(maker, sides, 25)
            self.assertEqual(Shift.of_joints(sides, joints).inverse(), Shift.of_joints(sides, joints[::-1]))


class PowerTest(unittest.TestCase):
    def test_small_counts(self):
        for shift in all_shifts():
            for count in SMALL:
                found = shift.power(count)
                self.assertIs(type(found), Shift)
                self.assertEqual(found, repeated(shift, count))
                self.assertEqual(found.places, powered(shift.places, count))

    def test_zero_and_one(self):
        for shift in all_shifts():
            self.assertEqual(shift.power(0), Shift.identity(len(shift.places)))
            self.assertEqual(shift.power(count=1), shift)
            self.assertEqual(shift.power(-1), shift.inverse())

    def test_large_counts(self):
        for shift in all_shifts():
            for count in LARGE:
                for signed in (count, -count):
                    found = shift.power(signed)
                    self.assertEqual(found.places, powered(shift.places, signed))
                    self.assertEqual(found, doubled(shift, signed))

    def test_known_power(self):
        self.assertEqual(Shift(1, 3, -1).power(2).places, (3, 4, -4))
        self.assertEqual(Shift(1, 3, -1).power(2 * 10 ** 17).places, (3 * 10 ** 17, 1 + 3 * 10 ** 17, 2 - 6 * 10 ** 17))

    def test_sums_of_counts(self):
        maker = Random(76)
        for shift in all_shifts():
            first, second = (maker.randint(-10 ** 17, 10 ** 17) for _ in range(2))
            self.assertEqual(shift.power(first).then(shift.power(second)), shift.power(first + second))


class ApplyTest(unittest.TestCase):
    def test_flips(self):
        maker = Random(77)
        for points in all_samples():
            polygon = Polygon(*points)
            for count in (0, 1, 2, 5, 60):
                joints = any_joints(maker, len(points), count)
                after = Shift.of_joints(len(points), joints).apply(polygon)
                self.assertIsInstance(after, Polygon)
                self.assertEqual(after, polygon.flipped(*joints))
            self.assertEqual(polygon.points, points)

    def test_the_words_of_the_document(self):
        maker = Random(78)
        for points in all_samples():
            polygon, sides = Polygon(*points), len(points)
            for size in (0, 1, 10 ** 18):
                places = any_places(maker, sides, size)
                after = Shift(*places).apply(polygon=polygon)
                self.assertEqual(after.sticks, tuple(polygon.sticks[place % sides] for place in places))
                for axis in (0, 1):
                    move = sum(place // sides * polygon.sticks[place % sides][axis] for place in places)
                    self.assertEqual(after.points[0][axis] - points[0][axis], move)

    def test_one_after_another(self):
        maker = Random(79)
        for points in all_samples():
            polygon = Polygon(*points)
            first = Shift(*any_places(maker, len(points), 3))
            second = Shift(*any_places(maker, len(points), 10 ** 6))
            self.assertEqual(first.then(second).apply(polygon), second.apply(first.apply(polygon)))
            self.assertEqual(first.inverse().apply(first.apply(polygon)), polygon)
            self.assertEqual(first.power(-3).apply(polygon), first.inverse().power(3).apply(polygon))

    def test_identity(self):
        for points in all_samples():
            self.assertEqual(Shift.identity(len(points)).apply(Polygon(*points)).points, points)


class OperandsTest(unittest.TestCase):
    def test_the_operands_stay(self):
        maker = Random(80)
        for points in all_samples():
            polygon = Polygon(*points)
            places = any_places(maker, len(points), 2)
            others = any_places(maker, len(points), 9)
            shift, other = Shift(*places), Shift(*others)
            results = [(shift.then(other), shift.inverse(), shift.power(5), shift.power(-2), shift.apply(polygon))
                       for _ in range(2)]
            self.assertEqual(results[0], results[1])
            self.assertEqual((shift.places, other.places, polygon.points), (places, others, points))


if __name__ == "__main__":
    unittest.main()
