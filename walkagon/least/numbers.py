"""The least numbers of flips between plane triangles and between plane quadrilaterals.

A shift is given by its windings here: a row that says, for each stick of the start, at which place it ends.
"""

from itertools import permutations
from math import gcd

from walkagon.errors import NotPlane, TooMany
from walkagon.reach.lattice import combination
from walkagon.reach.reasons import check_reachable
from walkagon.shapes.vectors import cross, differences, minus
from walkagon.shifts.shift import exchanged, first_crossing, passes_of

LIMIT = 500
MOST_SIDES = 4


def arrangements(start, goal):
    """The orders into which the sticks of start can be brought; an order says at which place each stick ends."""
    sticks = start.sticks
    wanted = goal.sticks
    return [order for order in permutations(range(len(sticks)))
            if all([wanted[place] == stick for place, stick in zip(order, sticks)])]


def closed(turns):
    """The turns of all sticks, from those of all but the first: together they turn as often to and fro."""
    return (-sum(turns), *turns)


def moving_turns(start, goal):
    """How often the sticks turn back around the polygon so that its joint 0 moves from start to goal."""
    return closed(combination(differences(start.sticks), minus(goal.points[0], start.points[0])))


def idle_turns(polygon):
    """The least turns of the sticks that move no joint; those of a plane triangle are none."""
    vectors = differences(polygon.sticks)
    if len(vectors) == 2:
        return closed((0, 0))
    first, second, third = vectors
    areas = (cross(second, third), cross(third, first), cross(first, second))
    divisor = gcd(areas[0], areas[1], areas[2])
    return closed([area // divisor for area in areas])


def lines(start, goal):
    """Pairs of a row and a step: the rows that lead to the goal are row + count * step for each integer count."""
    sides = len(start)
    turns = moving_turns(start, goal)
    step = [sides * turn for turn in idle_turns(start)]
    return [([place - sides * turn for place, turn in zip(order, turns)], step) for order in arrangements(start, goal)]


def row_at(row, step, count):
    """The row of the line that stands at this count."""
    return [place + count * change for place, change in zip(row, step)]


def likely_counts(row, step):
    """Counts of the line; the first and the last one with the least number of passes on the line are among them.

    Two sticks pass each other abs(passed + count * change) times. The sum of these numbers is convex, and its slope
    changes only where one of them is 0.
    """
    sides = len(row)
    counts = [0]
    for index in range(sides):
        for later in range(index + 1, sides):
            passed = (row[later] - row[index]) // sides
            change = (step[later] - step[index]) // sides
            if change != 0:
                counts.append(-passed // change)
                counts.append(-passed // change + 1)
    return counts


def least_flips(start, goal):
    """The least number of flips from start to goal."""
    check_reachable(start, goal)
    if not start.is_plane or len(start) > MOST_SIDES:
        raise NotPlane()
    return min([passes_of(row_at(row, step, count))
                for row, step in lines(start, goal) for count in likely_counts(row, step)])


def least_rows(start, goal, passes):
    """All rows that lead from start to goal with so many passes, which is the least number."""
    rows = []
    for row, step in lines(start, goal):
        counts = [count for count in likely_counts(row, step) if passes_of(row_at(row, step, count)) == passes]
        if counts:
            rows += [row_at(row, step, count) for count in range(min(counts), max(counts) + 1)]
    return rows


def first_flips(start, goal, *, limit=LIMIT):
    """The least tuple of joints among the shortest ones whose flips lead from start to goal."""
    passes = least_flips(start, goal)
    if passes > limit:
        raise TooMany(passes)
    rows = least_rows(start, goal, passes)
    joints = []
    for _ in range(passes):
        crossings = [first_crossing(row) for row in rows]
        joint = min(crossings)
        joints.append(joint)
        rows = [exchanged(row, joint) for row, crossing in zip(rows, crossings) if crossing == joint]
    return tuple(joints)
