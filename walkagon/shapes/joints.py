"""Joint numbers as arguments."""

from walkagon.errors import BadJoint


def check_joints(joints, sides):
    """Raise BadJoint for the first joint that a polygon with so many sides does not have."""
    for joint in joints:
        if joint < 0 or joint >= sides:
            raise BadJoint(joint)
