"""All polygons that few flips reach, ring by ring: a ring has those with the same least number of flips."""

from walkagon.errors import TooMany
from walkagon.shapes.polygons import Polygon

LIMIT = 3000


def next_ring(ring, before):
    """The points of the polygons of the ring behind this one, in ascending order; the ring before it is needed."""
    known = set(ring + before)
    found = set()
    for points in ring:
        polygon = Polygon(*points)
        for joint in range(len(points)):
            after = polygon.flipped(joint).points
            # A flip undoes itself, so that it leads no further back than to the ring before.
            if after not in known:
                found.add(after)
    return sorted(found)


def each_ring(polygon, radius):
    """Yield the rings from 0 to the radius; a ring is a list of the points of its polygons."""
    before = []
    ring = [polygon.points]
    yield ring
    for _ in range(radius):
        before, ring = ring, next_ring(ring, before)
        yield ring


def reached(polygon, radius):
    """Yield the polygons that at most so many flips reach, ring by ring."""
    for ring in each_ring(polygon, radius):
        for points in ring:
            yield Polygon(*points)


def ring_sizes(polygon, radius, *, limit=LIMIT):
    """The tuple of the numbers of polygons in the rings from 0 to the radius."""
    sizes = []
    for ring in each_ring(polygon, radius):
        sizes.append(len(ring))
        if sum(sizes) > limit:
            raise TooMany(limit + 1)
    return tuple(sizes)
