"""The classes of reasons: `told`, `holds` and `==`."""

import unittest
from itertools import product
from random import Random

from tests.lattices import move_between
from tests.samples import FAR, all_samples, simple_points
from walkagon.reach.reasons import Congruence, JointCount, Reason, StickCount
from walkagon.shapes.polygons import Polygon


def made_reasons():
    """Reasons that are all different."""
    numbers = (-1, 0, 1, 2)
    return ([Reason(), JointCount()]
            + [StickCount((x, y)) for x in numbers for y in numbers]
            + [Congruence(a, b, modulus) for a in numbers for b in numbers for modulus in (0, 1, 2)])


def made_by_keyword():
    """The same reasons in the same order."""
    numbers = (-1, 0, 1, 2)
    return ([Reason(), JointCount()]
            + [StickCount(stick=(x, y)) for x in numbers for y in numbers]
            + [Congruence(modulus=modulus, b=b, a=a) for a in numbers for b in numbers for modulus in (0, 1, 2)])


def is_zero(number, modulus):
    return number == 0 if modulus == 0 else number % modulus == 0


def congruence_holds(a, b, modulus, start, goal):
    """Point 7 of the document."""
    values = [a * x + b * y for x, y in start.sticks]
    x, y = move_between(start, goal)
    same = all(is_zero(value - other, modulus) for value in values for other in values)
    return same and not is_zero(a * x + b * y, modulus)


def pairs_of_polygons():
    maker = Random(41)
    samples = [Polygon(*points) for points in all_samples()]
    for start in samples:
        yield start, start
        yield start, maker.choice(samples)
        yield start, start.flipped(*[maker.randrange(len(start)) for _ in range(5)])
        yield start, start.moved((maker.randint(-4, 4), maker.randint(-4, 4)))


class LikeStickCount:
    """Not a reason, although it has the attribute of one."""

    stick = (1, 2)


class ToldTest(unittest.TestCase):
    def test_told(self):
        for reason, told in (
                (Reason(), "unreachable"),
                (JointCount(), "unreachable: different numbers of joints"),
                (StickCount((1, 0)), "unreachable: stick 1,0"),
                (StickCount((-12, -345)), "unreachable: stick -12,-345"),
                (Congruence(1, 1, 2), "unreachable: 1*x + 1*y modulo 2"),
                (Congruence(-3, 0, 0), "unreachable: -3*x + 0*y modulo 0"),
                (Congruence(10 ** 40, -(10 ** 30), 10 ** 299),
                 "unreachable: 1" + "0" * 40 + "*x + -1" + "0" * 30 + "*y modulo 1" + "0" * 299)):
            with self.subTest(told=told):
                self.assertEqual(reason.told(), told)

    def test_attributes(self):
        self.assertEqual(StickCount((3, -4)).stick, (3, -4))
        self.assertEqual(StickCount(stick=(FAR, 0)).stick, (FAR, 0))
        for reason in (Congruence(1, 2, 3), Congruence(modulus=3, a=1, b=2), Congruence(1, modulus=3, b=2)):
            self.assertEqual((reason.a, reason.b, reason.modulus), (1, 2, 3))

    def test_classes(self):
        for made in (JointCount(), StickCount((1, 0)), Congruence(1, 2, 3)):
            self.assertEqual(type(made).__bases__, (Reason,))
        for name in (Reason, JointCount, StickCount, Congruence):
            self.assertEqual(name.__module__, "walkagon.reach.reasons")
            for method in ("told", "holds", "__eq__"):
                self.assertIn(method, vars(name))


class EqualityTest(unittest.TestCase):
    def test_reasons_of_the_same_and_of_different_classes(self):
        for at, first in enumerate(made_reasons()):
            for other_at, second in enumerate(made_by_keyword()):
                with self.subTest(first=first.told(), second=second.told()):
                    self.assertIs(first == second, at == other_at)
                    self.assertIs(second == first, at == other_at)
                    self.assertIs(first != second, at != other_at)

    def test_a_reason_and_something_else(self):
        for reason in made_reasons() + [StickCount((1, 2))]:
            for other in (None, 0, "unreachable", reason.told(), (1, 2), LikeStickCount(), Reason):
                self.assertIs(reason == other, False)
                self.assertIs(other == reason, False)
                self.assertIs(reason != other, True)


class HoldsTest(unittest.TestCase):
    def test_reason(self):
        for start, goal in pairs_of_polygons():
            self.assertIs(Reason().holds(start, goal), False)

    def test_joint_count(self):
        for start, goal in pairs_of_polygons():
            self.assertIs(JointCount().holds(start, goal), len(start.points) != len(goal.points))

    def test_stick_count(self):
        for start, goal in pairs_of_polygons():
            for stick in start.sticks + goal.sticks + ((0, 0), (1, 0), (FAR, 7)):
                expected = start.sticks.count(stick) != goal.sticks.count(stick)
                self.assertIs(StickCount(stick).holds(start, goal), expected)

    def test_congruence(self):
        held = 0
        for start, goal in pairs_of_polygons():
            for a, b, modulus in product((-1, 0, 1, 2), (-3, 0, 1, 5), (0, 1, 2, 3, 6, 10 ** 40)):
                expected = congruence_holds(a, b, modulus, start, goal)
                held += expected
                with self.subTest(start=start, goal=goal, numbers=(a, b, modulus)):
                    self.assertIs(Congruence(a, b, modulus).holds(start, goal), expected)
        self.assertGreater(held, 100)

    def test_congruence_on_a_lattice(self):
        """Sticks that agree modulo many numbers, so that the motion decides."""
        maker = Random(42)
        for modulus in (2, 3, 4, 12):
            for _ in range(20):
                sticks = [(1 + modulus * maker.randint(-5, 5), modulus * maker.randint(-5, 5)) for _ in range(3)]
                last = (-sum(x for x, y in sticks), -sum(y for x, y in sticks))
                start = Polygon.from_sticks((3, 4), *sticks, last)
                for move in product(range(-2, 3), range(-2, 3)):
                    goal = start.moved(move)
                    for a, b, m in product((0, 1, modulus), (0, 1, -1), (0, 2, 4, modulus)):
                        self.assertIs(Congruence(a, b, m).holds(start, goal),
                                      congruence_holds(a, b, m, start, goal))

    def test_other_numbers_of_joints(self):
        triangle, square = Polygon((0, 0), (1, 0), (0, 1)), Polygon((0, 0), (1, 0), (1, 1), (0, 1))
        self.assertIs(JointCount().holds(triangle, square), True)
        self.assertIs(StickCount((1, 0)).holds(triangle, square), False)
        self.assertIs(StickCount((0, 1)).holds(triangle, square), True)
        self.assertIs(Congruence(1, 1, 2).holds(square, triangle), False)
        self.assertIs(Congruence(1, 1, 2).holds(square, triangle.moved((0, 1))), True)
        self.assertIs(Congruence(1, 1, 2).holds(triangle.moved((0, 1)), square), False)

    def test_modulus_zero(self):
        line = Polygon((0, 0), (2, 1), (6, 3))
        self.assertIs(Congruence(1, -2, 0).holds(line, line.moved((1, 0))), True)
        self.assertIs(Congruence(1, -2, 0).holds(line, line.moved((2, 1))), False)
        self.assertIs(Congruence(1, -1, 0).holds(line, line.moved((1, 0))), False)
        self.assertIs(Congruence(0, 0, 0).holds(line, line.moved((1, 0))), False)

    def test_by_name(self):
        square = Polygon(*simple_points(4))
        for reason in (Reason(), JointCount(), StickCount((4, -1)), Congruence(1, 0, 1)):
            self.assertIs(reason.holds(goal=square, start=square), False)


if __name__ == "__main__":
    unittest.main()
