"""Polygons with integer joints."""

from walkagon.errors import BadPolygon, NotClosed
from walkagon.shapes.joints import check_joints
from walkagon.shapes.texts import read_points
from walkagon.shapes.vectors import cross, minus, plus, total

LEAST_JOINTS = 3


def check_pairs(pairs):
    """Raise BadPolygon unless a polygon can have these points, or these sticks."""
    for index, pair in enumerate(pairs):
        if len(pair) != 2 or index == Polygon.MOST_JOINTS:
            raise BadPolygon(index)
    if len(pairs) < LEAST_JOINTS:
        raise BadPolygon(len(pairs))


def sides_of(points):
    """A list of pairs: each point with the next one, and the last one with the first one."""
    return list(zip(points, points[1:] + points[:1]))


class Polygon:
    """A polygon with these joints, which are points."""

    MOST_JOINTS = 8

    def __init__(self, *points):
        check_pairs(points)
        self.points = points

    @classmethod
    def parse(cls, text):
        """The polygon with this written form."""
        points = read_points(text)
        return cls(*points)

    @classmethod
    def from_sticks(cls, start, *sticks):
        """The polygon with this joint 0 and these sticks."""
        check_pairs(sticks)
        rest = total(sticks)
        if rest != (0, 0):
            raise NotClosed(rest)
        points = [start]
        for stick in sticks[:-1]:
            points.append(plus(points[-1], stick))
        return cls(*points)

    @staticmethod
    def mirror(point, first, second):
        """The mirror image of the point through the midpoint of the two others."""
        return minus(plus(first, second), point)

    @property
    def sticks(self):
        """The tuple of the vectors from each joint to the next one."""
        return tuple([minus(after, point) for point, after in sides_of(self.points)])

    @property
    def double_area(self):
        """Twice the area, below 0 if the joints run clockwise."""
        return sum([cross(point, after) for point, after in sides_of(self.points)])

    @property
    def is_plane(self):
        """Whether the polygon does not lie on one line."""
        sticks = self.sticks
        return any([cross(first, second) != 0 for first in sticks for second in sticks])

    @property
    def text(self):
        """The written form, which `parse` reads."""
        return " ".join([f"{x},{y}" for x, y in self.points])

    def flipped(self, *joints, reverse=False):
        """The polygon after flips of these joints, from the last to the first if reverse is True."""
        check_joints(joints, len(self.points))
        points = list(self.points)
        order = joints[::-1] if reverse else joints
        for joint in order:
            after = (joint + 1) % len(points)
            points[joint] = Polygon.mirror(points[joint], points[joint - 1], points[after])
        return Polygon(*points)

    def moved(self, vector):
        """The polygon with all joints moved by the vector."""
        points = [plus(point, vector) for point in self.points]
        return Polygon(*points)

    def __eq__(self, other):
        return isinstance(other, Polygon) and self.points == other.points

    def __len__(self):
        return len(self.points)

    def __repr__(self):
        # Python prints a tuple of at least three points just as the arguments of a call.
        return f"Polygon{self.points}"

    def __str__(self):
        return repr(self)
