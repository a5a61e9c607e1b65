"""The errors of the program."""


class WalkError(ValueError):
    """The base class of all errors of the program."""


class BadPolygon(WalkError):
    """The argument with this index makes a polygon impossible."""

    def __init__(self, index):
        super().__init__(f"no polygon, because of the joint or stick {index}")
        self.index = index


class BadText(WalkError):
    """The part with this index is not a written point."""

    def __init__(self, index):
        super().__init__(f"part {index} is not a point")
        self.index = index


class NotClosed(WalkError):
    """The sticks add up to this rest instead of (0, 0)."""

    def __init__(self, rest):
        super().__init__(f"the sticks add up to {rest}")
        self.rest = rest


class BadJoint(WalkError):
    """The polygon has no joint with this number."""

    def __init__(self, joint):
        super().__init__(f"there is no joint {joint}")
        self.joint = joint


class BadPlaces(WalkError):
    """The places are not those of a shift."""


class BadScript(WalkError):
    """The token with this index makes a script impossible."""

    def __init__(self, index):
        super().__init__(f"no script, because of the token {index}")
        self.index = index


class Unreachable(WalkError):
    """No flips lead to the goal, for this reason."""

    def __init__(self, reason):
        super().__init__("no flips lead to the goal")
        self.reason = reason


class NotPlane(WalkError):
    """The polygon is not a plane triangle or quadrilateral."""


class TooMany(WalkError):
    """There are more than the limit allows."""

    def __init__(self, count):
        super().__init__(f"too many: {count}")
        self.count = count


class TooFew(WalkError):
    """There are only this many."""

    def __init__(self, count):
        super().__init__(f"too few: {count}")
        self.count = count


class UnknownField(WalkError):
    """A description has no field with this name."""

    def __init__(self, name):
        super().__init__(f"there is no field {name}")
        self.name = name
