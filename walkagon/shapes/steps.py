"""Sequences of flips."""

from walkagon.shapes.joints import check_joints


def play(polygon, joints, *, reverse=False):
    """The polygon after the flips of these joints, from the last to the first if reverse is True."""
    return polygon.flipped(*joints, reverse=reverse)


def steps(polygon, joints):
    """Yield the polygon, and then the polygon after each flip of these joints."""
    # All joints are checked first, so that no polygon is yielded before a wrong one is found.
    check_joints(joints, len(polygon))
    yield polygon
    for joint in joints:
        polygon = polygon.flipped(joint)
        yield polygon
