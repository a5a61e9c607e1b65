"""Why no flips lead from one polygon to another one."""

from walkagon.errors import Unreachable
from walkagon.reach.bases import basis
from walkagon.shapes.vectors import differences, minus


class Reason:
    """The base class of the reasons."""

    def told(self):
        """The reason in words."""
        return "unreachable"

    def holds(self, start, goal):
        """Whether the reason shows that no flips lead from start to goal."""
        return False

    def __eq__(self, other):
        return type(other) is Reason and type(self) is Reason


class JointCount(Reason):
    """The numbers of joints differ."""

    def told(self):
        """The reason in words."""
        return super().told() + ": different numbers of joints"

    def holds(self, start, goal):
        """Whether the numbers of joints differ."""
        return len(start) != len(goal)

    def __eq__(self, other):
        if not isinstance(other, JointCount):
            return False
        return True


class StickCount(Reason):
    """This stick occurs with different multiplicities."""

    def __init__(self, stick):
        self.stick = stick

    def told(self):
        """The reason in words."""
        return super().told() + f": stick {self.stick[0]},{self.stick[1]}"

    def holds(self, start, goal):
        """Whether the polygons have the stick with different multiplicities."""
        return start.sticks.count(self.stick) != goal.sticks.count(self.stick)

    def __eq__(self, other):
        return isinstance(other, StickCount) and self.stick == other.stick


class Congruence(Reason):
    """All sticks have the same a * x + b * y modulo the modulus, but the motion of joint 0 does not have 0."""

    def __init__(self, a, b, modulus):
        self.a = a
        self.b = b
        self.modulus = modulus

    def told(self):
        """The reason in words."""
        return super().told() + f": {self.a}*x + {self.b}*y modulo {self.modulus}"

    def holds(self, start, goal):
        """Whether the sticks of start agree, and the vector between the joints 0 is not 0."""
        agree = all([self._vanishes(vector) for vector in differences(start.sticks)])
        return agree and not self._vanishes(minus(goal.points[0], start.points[0]))

    def _vanishes(self, vector):
        rest = self.a * vector[0] + self.b * vector[1]
        # A modulus of 0 stands for equality.
        return rest == 0 if self.modulus == 0 else rest % self.modulus == 0

    def __eq__(self, other):
        return (isinstance(other, Congruence) and self.a == other.a and self.b == other.b
                and self.modulus == other.modulus)


def congruences(polygon):
    """Two congruences; the motions of joint 0 that flips make are those against which neither holds."""
    first, second = basis(differences(polygon.sticks))
    # The differences of sticks are the multiples of (x, y) and (0, h); if x is 0, the first of these is (0, 0).
    scale = max(first[0], 1)
    return Congruence(1, 0, first[0]), Congruence(-first[1], scale, scale * second[1])


def reason_against(start, goal):
    """None if flips lead from start to goal, otherwise a reason that holds."""
    if len(start) != len(goal):
        return JointCount()
    differing = [stick for stick in start.sticks + goal.sticks if StickCount(stick).holds(start, goal)]
    if differing:
        return StickCount(min(differing))
    for reason in congruences(start):
        if reason.holds(start, goal):
            return reason
    return None


def check_reachable(start, goal):
    """Raise Unreachable if no flips lead from start to goal."""
    reason = reason_against(start, goal)
    if reason is not None:
        raise Unreachable(reason)
