"""Shifts: how flips rearrange the sticks of a polygon."""

from walkagon.errors import BadPlaces, TooMany
from walkagon.shapes.joints import check_joints
from walkagon.shapes.polygons import LEAST_JOINTS, Polygon
from walkagon.shapes.vectors import plus, scaled, total

LIMIT = 5000


def check_places(places):
    """Raise BadPlaces unless a shift can have these places."""
    sides = len(places)
    if sides < LEAST_JOINTS or sides > Polygon.MOST_JOINTS:
        raise BadPlaces()
    if len({place % sides for place in places}) != sides:
        raise BadPlaces()
    if sum(places) != sum(range(sides)):
        raise BadPlaces()


def exchanged(row, joint):
    """The list of the row's items after the flip of the joint, which exchanges the place before it and its own.

    The row may be that of the places, for a flip after the shift, or that of the windings, for one before it.
    """
    results = list(row)
    results[joint - 1], results[joint] = row[joint], row[joint - 1]
    if joint == 0:
        # The place before joint 0 is the last one, one round earlier.
        results[0] -= len(row)
        results[-1] += len(row)
    return results


def passes_of(windings):
    """The least number of flips that move the sticks to these places."""
    sides = len(windings)
    return sum([abs((later - winding) // sides)
                for index, winding in enumerate(windings) for later in windings[index + 1:]])


def first_crossing(windings):
    """The least joint whose two sticks have yet to pass each other; None if all sticks are where they belong."""
    before = windings[-1] - len(windings)
    for joint, winding in enumerate(windings):
        if before > winding:
            return joint
        before = winding
    return None


class Shift:
    """Place j then holds the stick that was at place number places[j]."""

    def __init__(self, *places):
        check_places(places)
        self.places = places

    @classmethod
    def identity(cls, sides):
        """The shift that changes nothing."""
        places = list(range(sides))
        return cls(*places)

    @classmethod
    def of_joints(cls, sides, joints):
        """The shift that the flips of these joints make, one after another."""
        check_joints(joints, sides)
        places = list(range(sides))
        for joint in joints:
            places = exchanged(places, joint)
        return cls(*places)

    @property
    def windings(self):
        """The tuple of the places to which the sticks move."""
        sides = len(self.places)
        found = [0] * sides
        for index, place in enumerate(self.places):
            found[place % sides] = index - place // sides * sides
        return tuple(found)

    @property
    def passes(self):
        """The least number of flips that make the shift."""
        return passes_of(self.windings)

    def then(self, other):
        """The shift of this one followed by the other one."""
        sides = len(self.places)
        places = [self.places[place % sides] + place // sides * sides for place in other.places]
        return Shift(*places)

    def inverse(self):
        """The shift that undoes this one."""
        places = self.windings
        return Shift(*places)

    def power(self, count):
        """The shift of so many repetitions; a negative count repeats the inverse."""
        result = Shift.identity(len(self.places))
        factor = self.inverse() if count < 0 else self
        left = abs(count)
        while left > 0:
            if left % 2 == 1:
                result = result.then(factor)
            factor = factor.then(factor)
            left //= 2
        return result

    def apply(self, polygon):
        """The polygon after the shift."""
        sides = len(self.places)
        old = polygon.sticks
        sticks = [old[place % sides] for place in self.places]
        moves = [scaled(old[place % sides], place // sides) for place in self.places]
        start = plus(polygon.points[0], total(moves))
        return Polygon.from_sticks(start, *sticks)

    def first_joints(self, *, limit=LIMIT):
        """The least of the shortest tuples of joints whose flips make the shift."""
        count = self.passes
        if count > limit:
            raise TooMany(count)
        windings = self.windings
        joints = []
        for _ in range(count):
            joint = first_crossing(windings)
            joints.append(joint)
            windings = exchanged(windings, joint)
        return tuple(joints)

    def __eq__(self, other):
        return isinstance(other, Shift) and self.places == other.places

    def __len__(self):
        return len(self.places)

    def __repr__(self):
        # Python prints a tuple of at least three places just as the arguments of a call.
        return f"Shift{self.places}"

    def __str__(self):
        return repr(self)
