"""Walkers: long sequences of calls, held against what the document says of each method."""

import unittest
from itertools import permutations, product
from random import Random

from tests.goals import after_flips, any_goal, starts
from tests.rows import any_joints, any_tree, moved_points, nested_tree, places_of, text_of
from tests.samples import FAR, SIDES, simple_points
from tests.search import plainly_flipped
from walkagon.errors import BadJoint, BadScript, TooFew, Unreachable, UnknownField
from walkagon.shapes.polygons import Polygon
from walkagon.walker import Walker

FIELDS = ("joint_count", "position", "stick_vectors", "area", "entries")
SMALL_COUNTS = (None, None, 0, 1, 2, 3)
LARGE_COUNTS = (None, 1, 2, 987654321, 10 ** 17 + 1, 10 ** 18)


class WalkerCase(unittest.TestCase):
    def assert_state(self, walker, history, polygon):
        """The walker has this history, a list of polygons, and this polygon."""
        self.assertIs(type(walker.polygon), Polygon)
        self.assertEqual(walker.polygon.points, polygon.points)
        self.assertIs(type(walker.history), tuple)
        self.assertEqual([old.points for old in walker.history], [old.points for old in history])
        self.assertEqual(len(walker), len(history))
        self.assertIsNone(walker.busy)

    def assert_description(self, walker):
        polygon = walker.polygon
        found = walker.describe(joint_count=True, position=True, stick_vectors=True, area=True, entries=True)
        self.assertEqual(found, {"joint_count": len(polygon.points), "position": polygon.points[0],
                                 "stick_vectors": polygon.sticks, "area": polygon.double_area,
                                 "entries": len(walker.history)})
        self.assertIsNone(walker.busy)


class Twin:
    """What a walker should be: the polygon and the history, changed by plain steps."""

    def __init__(self, polygon):
        self.polygon = polygon
        self.history = []

    def become(self, points):
        self.history.append(self.polygon)
        self.polygon = Polygon(*points)

    def undo(self, count):
        if count > 0:
            self.polygon = self.history[-count]
            self.history = self.history[:-count]


def do_flip(maker, walker, twin):
    joints = any_joints(maker, len(twin.polygon.points), maker.choice((0, 1, 1, 2, 9, 40)))
    if joints:
        twin.become(plainly_flipped(twin.polygon.points, joints))
    return walker.flip(*joints)


def do_run(maker, walker, twin):
    sides = len(twin.polygon.points)
    scripts = []
    for _ in range(maker.choice((0, 1, 1, 2, 5))):
        tree = any_tree(maker, sides, 2, SMALL_COUNTS)
        if maker.random() < 0.2:
            tree = nested_tree(maker, sides, LARGE_COUNTS)
        scripts.append(text_of(tree))
        twin.become(moved_points(twin.polygon.points, places_of(sides, tree)))
    return walker.run(*scripts)


def do_walk_to(maker, walker, twin):
    goal = maker.choice((twin.polygon, Polygon(*twin.polygon.points), after_flips(maker, twin.polygon, 9),
                         any_goal(maker, twin.polygon, 3), any_goal(maker, twin.polygon, 10 ** 14)))
    twin.become(goal.points)
    return walker.walk_to(goal)


def do_undo(maker, walker, twin):
    entries = len(twin.history)
    if entries and maker.random() < 0.4:
        twin.undo(1)
        return walker.undo()
    count = maker.choice((0, min(1, entries), entries // 2, maker.randint(0, min(3, entries))))
    if maker.random() < 0.05:
        count = entries
    twin.undo(count)
    return walker.undo(count=count)


def wrong_calls(maker, walker):
    """Calls that must fail, each with its error, for any walker."""
    sides = len(walker.polygon.points)
    rest = any_joints(maker, sides, 3)
    return ((BadJoint, lambda: walker.flip(*rest, sides)), (BadJoint, lambda: walker.flip(-1, *rest)),
            (BadScript, lambda: walker.run("0 1", "0 (")), (BadScript, lambda: walker.run("", "x", "0")),
            (TooFew, lambda: walker.undo(count=len(walker) + 1)),
            (Unreachable, lambda: walker.walk_to(Polygon(*walker.polygon.points[:-1], (7, 10 ** 99)))),
            (UnknownField, lambda: walker.describe(area=True, width=True)))


class SequenceTest(WalkerCase):
    def check_sequence(self, maker, walker, start, length):
        twin = Twin(start)
        self.assert_state(walker, [], start)
        for _ in range(length):
            action = maker.choice((do_flip, do_run, do_walk_to, do_undo))
            after = action(maker, walker, twin)
            self.assertEqual(after, twin.polygon)
            self.assertIs(type(after), Polygon)
            self.assert_state(walker, twin.history, twin.polygon)
            if maker.random() < 0.2:
                self.assert_description(walker)
            if maker.random() < 0.2:
                kind, call = maker.choice(wrong_calls(maker, walker))
                with self.assertRaises(kind):
                    call()
                self.assert_state(walker, twin.history, twin.polygon)

    def test_any_calls(self):
        maker = Random(181)
        for start in starts()[::4]:
            with self.subTest(start=start):
                self.check_sequence(maker, Walker(start), start, 40)

    def test_long_sequences(self):
        maker = Random(182)
        for sides in SIDES:
            start = Polygon(*simple_points(sides))
            self.check_sequence(maker, Walker.at(start.text), start, 300)

    def test_back_to_the_beginning(self):
        maker = Random(183)
        for start in starts()[::5]:
            walker, twin = Walker(start), Twin(start)
            for _ in range(20):
                maker.choice((do_flip, do_run, do_walk_to))(maker, walker, twin)
            self.assertEqual(walker.undo(count=len(walker)), start)
            self.assert_state(walker, [], start)

    def test_two_walkers(self):
        """What one does is not seen in the other, although both begin with the same polygon."""
        maker = Random(184)
        for start in starts()[::10]:
            walkers = (Walker(start), Walker(start), Walker.at(start.text))
            twins = (Twin(start), Twin(start), Twin(start))
            for _ in range(30):
                at = maker.randrange(3)
                maker.choice((do_flip, do_run, do_walk_to, do_undo))(maker, walkers[at], twins[at])
                for walker, twin in zip(walkers, twins):
                    self.assert_state(walker, twin.history, twin.polygon)


class MethodTest(WalkerCase):
    def setUp(self):
        self.start = Polygon((0, 0), (1, 0), (1, 1), (0, 1))
        self.walker = Walker(self.start)

    def test_made_by_the_constructor_and_by_at(self):
        for start in starts():
            for walker in (Walker(start), Walker(polygon=start), Walker.at(start.text), Walker.at(text=start.text)):
                self.assertIs(type(walker), Walker)
                self.assert_state(walker, [], start)
                self.assert_description(walker)
                self.assertIn("busy", vars(walker))

    def test_flip(self):
        self.assertEqual(self.walker.flip(), self.start)
        self.assert_state(self.walker, [], self.start)
        after = self.start.flipped(2)
        self.assertEqual(self.walker.flip(2), after)
        self.assert_state(self.walker, [self.start], after)
        self.assertEqual(self.walker.flip(2, 2), after)
        self.assert_state(self.walker, [self.start, after], after)

    def test_run(self):
        self.assertEqual(self.walker.run(), self.start)
        self.assert_state(self.walker, [], self.start)
        self.assertEqual(self.walker.run(""), self.start)
        self.assert_state(self.walker, [self.start], self.start)
        first, second = self.start.flipped(0, 1), self.start.flipped(0, 1, 3)
        self.assertEqual(self.walker.run("0 1", "~( 3 )", "( 2 )*0"), second)
        self.assert_state(self.walker, [self.start, self.start, first, second], second)

    def test_run_very_often(self):
        far = Walker.at("0,0 1,0 0,1")
        after = far.run("( 0 1 2 )*1000000000000000000")
        self.assertEqual(after.points[0], (0, 15 * 10 ** 17))
        self.assertEqual(far.run("~( 0 1 2 )*1000000000000000000"), Polygon((0, 0), (1, 0), (0, 1)))
        self.assertEqual(len(far), 2)

    def test_walk_to(self):
        goal = self.start.moved((10 ** 15, -(10 ** 15)))
        self.assertEqual(self.walker.walk_to(goal), goal)
        self.assert_state(self.walker, [self.start], goal)
        self.assertEqual(self.walker.walk_to(goal=goal), goal)
        self.assert_state(self.walker, [self.start, goal], goal)
        self.assertEqual(self.walker.walk_to(self.start), self.start)
        self.assert_state(self.walker, [self.start, goal, goal], self.start)

    def test_undo(self):
        polygons = [self.start] + [self.walker.flip(joint) for joint in (0, 1, 2, 3, 0, 2, 1)]
        self.assertEqual(self.walker.undo(count=0), polygons[7])
        self.assert_state(self.walker, polygons[:7], polygons[7])
        self.assertEqual(self.walker.undo(), polygons[6])
        self.assert_state(self.walker, polygons[:6], polygons[6])
        self.assertEqual(self.walker.undo(count=1), polygons[5])
        self.assertEqual(self.walker.undo(count=3), polygons[2])
        self.assert_state(self.walker, polygons[:2], polygons[2])
        self.assertEqual(self.walker.undo(count=2), self.start)
        self.assert_state(self.walker, [], self.start)
        self.assertEqual(self.walker.undo(count=0), self.start)

    def test_one_entry_for_each_call(self):
        self.walker.flip(0, 1, 2, 3, 0)
        self.assertEqual(len(self.walker), 1)
        self.walker.run("0", "1 2", "( 3 )*5")
        self.assertEqual(len(self.walker), 4)
        self.walker.walk_to(self.start)
        self.assertEqual(len(self.walker), 5)
        self.walker.describe(area=True)
        self.assertEqual(len(self.walker), 5)

    def test_what_was_returned_stays(self):
        self.walker.flip(0)
        history = self.walker.history
        described = self.walker.describe(entries=True, position=True)
        self.walker.flip(1)
        self.walker.undo(count=2)
        self.assertEqual(history, (self.start,))
        self.assertEqual(described, {"entries": 1, "position": (1, 1)})

    def test_the_description_belongs_to_the_caller(self):
        described = self.walker.describe(entries=True, area=True)
        described.clear()
        described["entries"] = 7
        self.assertEqual(self.walker.describe(entries=True, area=True), {"entries": 0, "area": 2})

    def test_methods_stand_in_the_class(self):
        for name in ("at", "polygon", "history", "flip", "run", "walk_to", "undo", "describe", "__len__", "__init__"):
            self.assertIn(name, vars(Walker))
        self.assertIsInstance(vars(Walker)["at"], classmethod)
        self.assertIsInstance(vars(Walker)["polygon"], property)
        self.assertIsInstance(vars(Walker)["history"], property)
        self.assertEqual(Walker.__module__, "walkagon.walker")

    def test_count_is_no_position(self):
        self.walker.flip(0)
        with self.assertRaises(TypeError):
            self.walker.undo(1)


class DescribeTest(WalkerCase):
    def test_any_order_true_and_false(self):
        walker = Walker.at("3,4 7,4 7,7 2,9")
        walker.flip(1)
        values = {"joint_count": 4, "position": (3, 4), "stick_vectors": walker.polygon.sticks,
                  "area": walker.polygon.double_area, "entries": 1}
        for count in range(6):
            for names in permutations(FIELDS, count):
                for marks in product((True, False), repeat=count):
                    found = walker.describe(**dict(zip(names, marks)))
                    self.assertIs(type(found), dict)
                    expected = [(name, values[name]) for name, mark in zip(names, marks) if mark]
                    self.assertEqual(list(found.items()), expected)

    def test_nothing_wanted(self):
        self.assertEqual(Walker.at("0,0 1,0 0,1").describe(), {})

    def test_each_polygon(self):
        for start in starts():
            walker = Walker(start)
            for joint in (0, 1, 2):
                walker.flip(joint)
                self.assert_description(walker)

    def test_kinds_of_values(self):
        found = Walker(Polygon((FAR, -FAR), (1, 0), (0, 1))).describe(**dict.fromkeys(FIELDS, True))
        self.assertEqual([type(value) for value in found.values()], [int, tuple, tuple, int, int])


if __name__ == "__main__":
    unittest.main()
