"""Plane triangles and quadrilaterals, and what changes them without changing how many flips lead between them."""

from tests.search import least_tuples
from walkagon.shapes.polygons import Polygon

SIZES = (3, 30, 10 ** 6, 10 ** 11)
# Any, a parallelogram, equal sticks, a zero stick, a kite, parallel sticks, crossing sides.
SMALL_SHAPES = (
    ((0, 0), (1, 0), (0, 1)),
    ((2, 1), (5, 0), (3, 4)),
    ((0, 0), (3, 0), (0, -3)),
    ((-1, 0), (3, 2), (5, 5)),
    ((0, 0), (1, 0), (1, 1), (0, 1)),
    ((0, 0), (2, 1), (3, 3), (1, 2)),
    ((5, 5), (6, 5), (7, 5), (6, 8)),
    ((0, 0), (1, 2), (3, 0), (4, 2)),
    ((0, 0), (0, 0), (1, 0), (0, 1)),
    ((0, 0), (2, 1), (2, 1), (-1, 3)),
    ((0, 0), (2, -1), (4, 0), (2, 3)),
    ((0, 0), (3, 0), (2, 1), (1, 1)),
    ((0, 0), (2, 2), (2, 0), (0, 3)),
    ((1, 1), (4, 2), (6, 5), (0, 3)),
)
# How far the search goes around each of them.
RADIUS = {3: 12, 4: 8}


def any_sticks(maker, sides, size):
    return [(maker.randint(-size, size), maker.randint(-size, size)) for _ in range(sides - 1)]


def twin_sticks(maker, sides, size):
    sticks = any_sticks(maker, sides, size // 2)
    return [sticks[0]] * 2 + sticks[2:]


def empty_stick(maker, sides, size):
    return [(0, 0)] + any_sticks(maker, sides, size)[1:]


def parallelogram(maker, sides, size):
    (a, b), (c, d) = any_sticks(maker, 3, size)
    return [(a, b), (c, d), (-a, -b)][:sides - 1]


def any_shape(maker, sides, size):
    """A plane polygon with any joint 0 and sticks of about this size, in any order."""
    while True:
        kind = maker.choice((any_sticks, any_sticks, twin_sticks, empty_stick, parallelogram))
        sticks = kind(maker, sides, size)
        sticks.append((-sum(x for x, _ in sticks), -sum(y for _, y in sticks)))
        maker.shuffle(sticks)
        shape = Polygon.from_sticks((maker.randint(-size, size), maker.randint(-size, size)), *sticks)
        if shape.is_plane:
            return shape


def near_pairs():
    """Two polygons with the least of the shortest tuples of joints that lead from the one to the other."""
    for shape in SMALL_SHAPES:
        start = Polygon(*shape)
        for points, joints in least_tuples(shape, RADIUS[len(shape)]).items():
            yield start, Polygon(*points), joints


def moved_far(polygon):
    return polygon.moved((987654321, -(10 ** 15)))


def mirrored(polygon):
    return Polygon(*[(-x, y) for x, y in polygon.points])


def turned(polygon):
    return Polygon(*[(-y, x) for x, y in polygon.points])


def renumbered(polygon):
    return Polygon(*polygon.points[1:], polygon.points[0])


def reversed_joints(polygon):
    return Polygon(*polygon.points[::-1])
