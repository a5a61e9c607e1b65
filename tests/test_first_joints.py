"""The least of the shortest tuples of joints: `first_joints`."""

import unittest
from itertools import product
from random import Random

from tests.rows import any_places, going_round, played_places
from tests.samples import SIDES
from walkagon.errors import TooMany
from walkagon.shifts.shift import LIMIT, Shift


class FirstJointsTest(unittest.TestCase):
    def test_all_short_tuples(self):
        for sides, longest in ((3, 8), (4, 5), (5, 4), (6, 4), (7, 3), (8, 4)):
            least = {}
            for count in range(longest + 1):
                for joints in product(range(sides), repeat=count):
                    # Shorter tuples come first, and among equally long ones the least.
                    least.setdefault(played_places(sides, joints), joints)
            for places, joints in least.items():
                self.assertEqual(Shift(*places).first_joints(), joints)
                self.assertEqual(Shift(*places).passes, len(joints))

    def test_identity(self):
        for sides in SIDES:
            self.assertEqual(Shift.identity(sides).first_joints(), ())
            self.assertEqual(Shift.identity(sides).first_joints(limit=1), ())

    def test_as_many_as_passes_and_the_same_shift(self):
        maker = Random(91)
        for sides in SIDES:
            for size in (0, 1, 3, 40):
                for _ in range(6):
                    shift = Shift(*any_places(maker, sides, size))
                    joints = shift.first_joints(limit=20000)
                    self.assertIs(type(joints), tuple)
                    self.assertEqual(len(joints), shift.passes)
                    self.assertEqual(Shift.of_joints(sides, joints), shift)

    def test_no_smaller_joint_begins_a_shortest_tuple(self):
        maker = Random(92)
        for sides in SIDES:
            for size in (0, 1, 4):
                shift = Shift(*any_places(maker, sides, size))
                joints = shift.first_joints()
                for joint in joints:
                    following = [Shift.of_joints(sides, (other,)).then(shift) for other in range(joint + 1)]
                    nearer = [other.passes < shift.passes for other in following]
                    self.assertEqual(nearer, [False] * joint + [True])
                    shift = following[-1]
                self.assertEqual(shift, Shift.identity(sides))

    def test_the_same_again(self):
        shift = Shift(-3, 4, 2)
        self.assertEqual([shift.first_joints(), shift.places], [shift.first_joints(), (-3, 4, 2)])


class LimitTest(unittest.TestCase):
    def assert_too_many(self, shift, count, **keywords):
        with self.assertRaises(TooMany) as caught:
            shift.first_joints(**keywords)
        self.assertEqual(caught.exception.count, count)

    def test_given_limits(self):
        for sides in SIDES:
            for count in (1, 2, 3, 50):
                joints = going_round(sides, count)
                shift = Shift.of_joints(sides, joints)
                self.assertEqual(shift.passes, count)
                for limit in (count, count + 1, 20000):
                    found = shift.first_joints(limit=limit)
                    self.assertEqual(len(found), count)
                    self.assertEqual(Shift.of_joints(sides, found), shift)
                for limit in (1, count // 2, count - 1):
                    if 1 <= limit < count:
                        self.assert_too_many(shift, count, limit=limit)

    def test_limit_omitted(self):
        self.assertEqual(LIMIT, 5000)
        for sides in (3, 5, 8):
            for count in (4999, 5000):
                shift = Shift.of_joints(sides, going_round(sides, count))
                self.assertEqual(len(shift.first_joints()), count)
                self.assert_too_many(shift, count, limit=count - 1)
            for count in (5001, 5002, 20000):
                shift = Shift.of_joints(sides, going_round(sides, count))
                self.assert_too_many(shift, count)
                self.assert_too_many(shift, count, limit=5000)

    def test_twenty_thousand(self):
        for sides in (3, 8):
            shift = Shift.of_joints(sides, going_round(sides, 20000))
            joints = shift.first_joints(limit=20000)
            self.assertEqual(len(joints), 20000)
            self.assertEqual(Shift.of_joints(sides, joints), shift)
            self.assert_too_many(shift, 20000, limit=19999)
            self.assert_too_many(shift.then(Shift.of_joints(sides, (20000 % sides,))), 20001, limit=20000)

    def test_a_limit_beyond_twenty_thousand(self):
        shift = Shift.of_joints(5, going_round(5, 25000))
        self.assertEqual(len(shift.first_joints(limit=30000)), 25000)
        self.assert_too_many(shift, 25000, limit=24000)

    def test_very_many(self):
        shift = Shift.of_joints(4, (0, 1, 2, 3)).power(10 ** 18)
        self.assert_too_many(shift, 4 * 10 ** 18)
        self.assert_too_many(shift, 4 * 10 ** 18, limit=20000)

    def test_limit_is_no_position(self):
        with self.assertRaises(TypeError):
            Shift.identity(3).first_joints(10)


if __name__ == "__main__":
    unittest.main()
