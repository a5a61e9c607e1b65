"""Running scripts, also with very large numbers of repetitions."""

from math import gcd

from walkagon.shapes.joints import check_joints
from walkagon.shapes.vectors import minus
from walkagon.shifts.shift import Shift
from walkagon.shifts.tokens import BACKWARD, CLOSING, FORWARD, JOINTS, read_script


def script_shift(sides, script):
    """The shift of the script for polygons with this number of joints."""
    words = read_script(script)
    check_joints([int(word) for word, _ in words if word in JOINTS], sides)
    openings = []
    shifts = [Shift.identity(sides)]
    for word, repeats in words:
        if word in (FORWARD, BACKWARD):
            openings.append(word)
            shifts.append(Shift.identity(sides))
            continue
        if word == CLOSING:
            part = shifts.pop().power(repeats)
            # Flips in reverse undo the flips, because each flip undoes itself.
            part = part.inverse() if openings.pop() == BACKWARD else part
        else:
            part = Shift.of_joints(sides, (int(word),) * (repeats % 2))
        shifts[-1] = shifts[-1].then(part)
    return shifts[0]


def script_length(script):
    """The number of flips that the script plays."""
    lengths = [0]
    for word, repeats in read_script(script):
        if word in (FORWARD, BACKWARD):
            lengths.append(0)
            continue
        length = lengths.pop() if word == CLOSING else 1
        lengths[-1] += length * repeats
    return lengths[0]


def run(polygon, script, *, times=1):
    """The polygon after so many runs of the script; a negative number undoes runs."""
    return script_shift(len(polygon), script).power(times).apply(polygon)


def stick_period(polygon, script):
    """The least positive number of runs that bring the sticks into their old order, and the motion of joint 0."""
    shift = script_shift(len(polygon), script)
    after = shift.apply(polygon)
    runs = 1
    while after.sticks != polygon.sticks:
        after = shift.apply(after)
        runs += 1
    return runs, minus(after.points[0], polygon.points[0])


def period(polygon, script):
    """The least positive number of runs of the script that return the polygon; None if there is none."""
    # Polygons with equal sticks make equal motions, so that a motion other than (0, 0) is never made up for.
    runs, motion = stick_period(polygon, script)
    return runs if motion == (0, 0) else None


def lowest(numerator, denominator):
    """The fraction in lowest terms, for a denominator above 0."""
    divisor = gcd(numerator, denominator)
    return numerator // divisor, denominator // divisor


def mean_motion(polygon, script):
    """The mean motion of the polygon for each run of the script, as a pair of fractions."""
    runs, motion = stick_period(polygon, script)
    return lowest(motion[0], runs), lowest(motion[1], runs)
