"""What holds over the whole program: answers that fit together, mapped planes, the same answers again."""

import unittest
from random import Random

from tests.corners import SIZES, any_shape
from tests.goals import after_flips, any_goal, starts
from tests.lattices import flips_lead
from tests.rows import any_tree, text_of
from tests.samples import SIDES, simple_points
from walkagon.errors import (BadJoint, BadPlaces, BadPolygon, BadScript, BadText, NotClosed, NotPlane, TooFew, TooMany,
                             Unreachable, UnknownField, WalkError)
from walkagon.least.numbers import first_flips, least_flips
from walkagon.least.rings import reached, ring_sizes
from walkagon.reach.lattice import combination
from walkagon.reach.reasons import Congruence, StickCount, reason_against
from walkagon.reach.routes import find_script
from walkagon.shapes.polygons import Polygon
from walkagon.shapes.steps import play, steps
from walkagon.shifts.language import mean_motion, period, run, script_length, script_shift
from walkagon.shifts.shift import Shift
from walkagon.walker import Walker

SMALL_COUNTS = (None, None, 0, 1, 2, 3)
# Maps of the plane by whole numbers, (a, b, c, d, e, f): (x, y) becomes (a * x + b * y + e, c * x + d * y + f).
# No two points fall together, because a * d - b * c is not 0.
MAPS = ((1, 0, 0, 1, 5, -7), (-1, 0, 0, -1, 0, 0), (0, 1, 1, 0, 0, 0), (1, 1, 0, 1, 0, 0), (2, 0, 0, 2, 1, 1),
        (1, 0, 0, -3, 0, 9), (2, 1, 3, 4, -1, 0), (100, -99, 7, 13, 10 ** 6, 0))


def mapped_vector(change, vector):
    a, b, c, d, _, _ = change
    return (a * vector[0] + b * vector[1], c * vector[0] + d * vector[1])


def mapped_point(change, point):
    x, y = mapped_vector(change, point)
    return (x + change[4], y + change[5])


def mapped(change, polygon):
    return Polygon(*[mapped_point(change, point) for point in polygon.points])


def samples(seed):
    """Polygons with scripts and joints for them, and a goal each, which may be out of reach."""
    maker = Random(seed)
    for start in starts()[::3]:
        sides = len(start.points)
        script = text_of(any_tree(maker, sides, 2, SMALL_COUNTS))
        joints = tuple(maker.randrange(sides) for _ in range(6))
        goal = any_goal(maker, start, 5).moved(maker.choice(((0, 0), (0, 0), (1, 0), (0, -1))))
        yield start, script, joints, goal


def shape_pairs(seed):
    maker = Random(seed)
    for sides in (3, 4):
        for size in SIZES:
            for most in (1, 4, 20):
                start = any_shape(maker, sides, size)
                yield start, any_goal(maker, start, most)


class MappedPlaneTest(unittest.TestCase):
    def test_flips_scripts_and_shifts(self):
        for start, script, joints, _ in samples(201):
            shift = Shift.of_joints(len(start.points), joints)
            for change in MAPS:
                there = mapped(change, start)
                self.assertEqual(play(there, joints), mapped(change, play(start, joints)))
                self.assertEqual(run(there, script), mapped(change, run(start, script)))
                self.assertEqual(shift.apply(there), mapped(change, shift.apply(start)))
                self.assertEqual(list(steps(there, joints)), [mapped(change, step) for step in steps(start, joints)])

    def test_sticks_and_areas(self):
        for start, _, _, _ in samples(202):
            for change in MAPS:
                there = mapped(change, start)
                factor = change[0] * change[3] - change[1] * change[2]
                self.assertEqual(there.sticks, tuple(mapped_vector(change, stick) for stick in start.sticks))
                self.assertEqual(there.double_area, factor * start.double_area)
                self.assertIs(there.is_plane, start.is_plane)

    def test_periods_and_mean_motions(self):
        for start, script, _, _ in samples(203):
            runs = 840
            for change in MAPS:
                there = mapped(change, start)
                self.assertEqual(period(there, script), period(start, script))
                # After so many runs the motion is whole.
                whole = [tuple(upper * runs // lower for upper, lower in mean_motion(polygon, script))
                         for polygon in (start, there)]
                self.assertEqual(whole[1], mapped_vector(change, whole[0]))

    def test_what_can_be_reached(self):
        for start, _, _, goal in samples(204):
            for change in MAPS:
                here, there = (start, goal), (mapped(change, start), mapped(change, goal))
                if flips_lead(start, goal):
                    self.assertEqual(run(there[0], find_script(*here)), there[1])
                    self.assertEqual(run(start, find_script(*there)), goal)
                    continue
                for pair in (here, there):
                    with self.assertRaises(Unreachable) as caught:
                        find_script(*pair)
                    self.assertIs(caught.exception.reason.holds(*pair), True)

    def test_reasons_of_sticks(self):
        start = Polygon(*simple_points(6))
        goal = Polygon(*simple_points(5), (1, 1))
        stick = reason_against(start, goal).stick
        for change in MAPS:
            there = (mapped(change, start), mapped(change, goal))
            self.assertIs(StickCount(mapped_vector(change, stick)).holds(*there), True)
            self.assertIs(type(reason_against(*there)), StickCount)

    def test_least_numbers(self):
        for start, goal in shape_pairs(205):
            for change in MAPS:
                there = (mapped(change, start), mapped(change, goal))
                self.assertEqual(least_flips(*there), least_flips(start, goal))
                self.assertEqual(first_flips(*there, limit=1000), first_flips(start, goal, limit=1000))

    def test_rings(self):
        for start, _, _, _ in samples(206):
            here = list(reached(start, 2))
            for change in MAPS:
                there = mapped(change, start)
                sizes = ring_sizes(start, 3)
                self.assertEqual(ring_sizes(there, 3), sizes)
                self.assertEqual(sorted(polygon.points for polygon in reached(there, 2)),
                                 sorted(mapped(change, polygon).points for polygon in here))

    def test_walkers(self):
        for start, script, joints, _ in samples(207):
            for change in MAPS:
                walkers = (Walker(start), Walker(mapped(change, start)))
                for walker in walkers:
                    walker.flip(*joints)
                    walker.run(script, "0 1")
                    walker.undo()
                history = [mapped(change, polygon) for polygon in walkers[0].history]
                self.assertEqual(list(walkers[1].history), history)
                self.assertEqual(walkers[1].polygon, mapped(change, walkers[0].polygon))


class ChainTest(unittest.TestCase):
    def test_scripts_become_shifts_joints_and_walks(self):
        maker = Random(208)
        for start in starts():
            goal = after_flips(maker, start, 12)
            script = find_script(start, goal)
            shift = script_shift(len(start.points), script)
            self.assertEqual(shift.apply(start), goal)
            joints = shift.first_joints(limit=20000) if shift.passes <= 3000 else ()
            if joints:
                self.assertEqual(play(start, joints), goal)
                self.assertEqual(list(steps(start, joints))[-1], goal)
                self.assertEqual(start.flipped(*joints), goal)
                self.assertEqual(Shift.of_joints(len(start.points), joints), shift)
            self.assertGreaterEqual(script_length(script), shift.passes)
            self.assertEqual(run(goal, script, times=-1), start)
            self.assertEqual(run(start, script + " " + find_script(goal, start) if script else ""), start)
            walker = Walker(start)
            self.assertEqual(walker.run(script, find_script(goal, start)), start)
            self.assertEqual(walker.history[1:], (goal,))

    def test_least_flips_and_the_other_ways(self):
        for start, goal in shape_pairs(209):
            number = least_flips(start, goal)
            shift = script_shift(len(start.points), find_script(start, goal))
            self.assertLessEqual(number, shift.passes)
            joints = first_flips(start, goal, limit=1000)
            found = Shift.of_joints(len(start.points), joints)
            self.assertEqual(found.passes, number)
            self.assertEqual(found.first_joints(), joints)
            self.assertEqual(found.apply(start), goal)
            self.assertEqual(Walker(start).flip(*joints), goal)
            if len(start.points) == 3:
                self.assertEqual(found, shift)
            written = " ".join(str(joint) for joint in joints)
            self.assertEqual(script_length(written), number)
            self.assertEqual(run(start, written), goal)

    def test_all_that_is_reached_can_be_reached(self):
        for sides in SIDES:
            start = Polygon(*simple_points(sides))
            for polygon in reached(start, 3):
                self.assertIsNone(reason_against(start, polygon))
                self.assertEqual(run(start, find_script(start, polygon)), polygon)
                self.assertEqual(Walker(polygon).walk_to(start), start)

    def test_reasons_are_passed_on(self):
        for start, _, _, goal in samples(210):
            reason = reason_against(start, goal)
            if reason is None:
                self.assertEqual(run(start, find_script(start, goal)), goal)
                continue
            calls = [lambda: find_script(start, goal), lambda: Walker(start).walk_to(goal),
                     lambda: least_flips(start, goal), lambda: first_flips(start, goal)]
            for call in calls:
                with self.assertRaises(Unreachable) as caught:
                    call()
                self.assertEqual(caught.exception.reason, reason)
                self.assertEqual(caught.exception.reason.told(), reason.told())

    def test_periods_end(self):
        for start, script, _, _ in samples(211):
            count = period(start, script)
            if count is not None:
                self.assertEqual(find_script(start, run(start, script, times=count)), "")

    def test_texts(self):
        for start, script, _, _ in samples(212):
            self.assertEqual(Polygon.parse(run(start, script).text), run(start, script))
            self.assertEqual(Walker.at(start.text).run(script), run(start, script))


class SameAgainTest(unittest.TestCase):
    def calls(self):
        """Calls of the whole program; each returns the same at any time."""
        start, goal = Polygon(*simple_points(4)), Polygon(*simple_points(4)).flipped(0, 1, 2, 3, 1, 0, 2)
        wide = Polygon(*simple_points(7))
        other = after_flips(Random(213), wide, 20)
        shift = Shift.of_joints(7, (0, 3, 6, 2))
        return (lambda: find_script(start, goal), lambda: find_script(wide, other), lambda: least_flips(start, goal),
                lambda: first_flips(start, goal), lambda: [shape.points for shape in reached(wide, 3)],
                lambda: ring_sizes(start, 9), lambda: ring_sizes(wide, 3), lambda: wide.flipped(0, 6, 2).points,
                lambda: start.sticks, lambda: goal.double_area, lambda: shift.power(10 ** 18).places,
                lambda: shift.first_joints(), lambda: shift.apply(wide).points, lambda: period(wide, "0 1 ( 2 )*3"),
                lambda: mean_motion(wide, "( 0 1 2 3 4 5 6 )*5"), lambda: script_length("( 0 )*9"),
                lambda: combination(((2, 0), (0, 3), (5, 5)), (4, -3)), lambda: reason_against(start, wide).told(),
                lambda: reason_against(wide, wide.moved((0, 1))) is None, lambda: Walker(start).flip(1, 2).points,
                lambda: Walker(wide).walk_to(other).points, lambda: Walker(wide).describe(area=True, entries=True))

    def test_the_same_in_any_order(self):
        calls = self.calls()
        answers = [call() for call in calls]
        order = list(range(len(calls))) * 3
        Random(214).shuffle(order)
        for at in order:
            self.assertEqual(calls[at](), answers[at])

    def test_the_same_after_errors(self):
        calls = self.calls()
        answers = [call() for call in calls]
        for wrong in wrong_calls():
            with self.assertRaises(WalkError):
                wrong[1]()
        self.assertEqual([call() for call in calls], answers)

    def test_arguments_stay(self):
        points = (simple_points(4), Polygon(*simple_points(4)).flipped(0, 1, 2).points)
        start, goal = Polygon(*points[0]), Polygon(*points[1])
        reason, shift = Congruence(1, 2, 3), Shift.of_joints(4, (0, 1))
        for call in (find_script, least_flips, first_flips, reason_against, reason.holds):
            call(start, goal)
        for call in (lambda: list(reached(start, 4)), lambda: ring_sizes(start, 9), lambda: shift.apply(start),
                     lambda: Walker(start).walk_to(goal), lambda: Walker(start).run("( 0 1 )*7"),
                     lambda: shift.then(shift), lambda: run(start, "0 1"), lambda: play(start, (0, 1))):
            call()
        self.assertEqual((vars(start), vars(goal)), ({"points": points[0]}, {"points": points[1]}))
        self.assertEqual(vars(reason), {"a": 1, "b": 2, "modulus": 3})
        self.assertEqual(vars(shift), {"places": Shift.of_joints(4, (0, 1)).places})


def wrong_calls():
    """The first error that the document lists, for calls with more than one thing wrong."""
    triangle, square = Polygon((0, 0), (1, 0), (0, 1)), Polygon((0, 0), (1, 0), (1, 1), (0, 1))
    line, wide = Polygon((0, 0), (2, 0), (5, 0)), Polygon(*simple_points(5))
    far = triangle.moved((3 * 10 ** 9, 0))
    walker = Walker(triangle)
    return ((BadPolygon, lambda: Polygon((0, 0), (1,))), (BadPolygon, lambda: Polygon.from_sticks((0, 0), (1, 0))),
            (BadText, lambda: Polygon.parse("0,0 x")), (BadPolygon, lambda: Polygon.parse("0,0 1,1")),
            (NotClosed, lambda: Polygon.from_sticks((0, 0), (1, 0), (1, 0), (1, 0))),
            (BadPlaces, lambda: Shift(1, 1)), (BadScript, lambda: run(triangle, "7 x")),
            (BadJoint, lambda: run(triangle, "( 7 )*0")), (Unreachable, lambda: first_flips(line, square, limit=1)),
            (Unreachable, lambda: least_flips(wide, square)), (NotPlane, lambda: least_flips(line, line)),
            (NotPlane, lambda: first_flips(wide, wide.flipped(0, 1), limit=1)),
            (TooMany, lambda: first_flips(triangle, far)), (TooMany, lambda: ring_sizes(wide, 10, limit=9)),
            (TooFew, lambda: walker.undo()),
            (UnknownField, lambda: walker.describe(area=True, edge=True)), (BadScript, lambda: walker.run("x", "7")),
            (BadJoint, lambda: walker.run("7", "x")), (BadText, lambda: Walker.at("0,0 1")))


class FirstErrorTest(unittest.TestCase):
    def test_the_error_that_is_listed_first(self):
        for kind, call in wrong_calls():
            with self.assertRaises(WalkError) as caught:
                call()
            self.assertIs(type(caught.exception), kind)


if __name__ == "__main__":
    unittest.main()
