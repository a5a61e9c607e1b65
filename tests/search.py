"""Flips by hand, and the search ring by ring for what they lead to: polygons as plain tuples of points."""


def plainly_flipped(points, joints):
    """The points after the flips, one joint after another, as the document words it."""
    count = len(points)
    rest = list(points)
    for i in joints:
        before, after = rest[(i - 1) % count], rest[(i + 1) % count]
        rest[i] = (before[0] + after[0] - rest[i][0], before[1] + after[1] - rest[i][1])
    return tuple(rest)


def least_tuples(points, radius):
    """All that so many flips reach, each with the least tuple of joints among the shortest ones that lead there."""
    found = {points: ()}
    ring = [points]
    for _ in range(radius):
        following = {}
        # The ring is in the order of its tuples, and so is what its flips lead to.
        for old in ring:
            for joint in range(len(points)):
                new = plainly_flipped(old, (joint,))
                if new not in found:
                    following.setdefault(new, found[old] + (joint,))
        found.update(following)
        ring = list(following)
    return found


def rings_around(points, radius):
    """The rings, each a list of points in ascending order."""
    rings = [[] for _ in range(radius + 1)]
    for reached, joints in least_tuples(points, radius).items():
        rings[len(joints)].append(reached)
    return [sorted(ring) for ring in rings]
