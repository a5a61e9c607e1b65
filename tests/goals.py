"""Polygons to start from, and goals that they reach or miss."""

from random import Random

from tests.lattices import differences, summed
from tests.samples import SIDES, all_samples
from walkagon.shapes.polygons import Polygon


def even_points(maker, sides):
    """Polygons that reach few points: the differences of their sticks are multiples of across and of along."""
    across, along = sides * maker.randint(1, 5), sides * maker.randint(0, 5)
    x, y = maker.randint(-2, 2) * across // sides, maker.randint(-2, 2) * along // sides
    points = [(maker.randint(-9, 9), maker.randint(-9, 9))]
    for _ in range(sides - 1):
        points.append((points[-1][0] + x + across * maker.randint(-3, 3),
                       points[-1][1] + y + along * maker.randint(-3, 3)))
    return tuple(points)


def starts():
    maker = Random(51)
    found = [Polygon(*points) for points in all_samples()]
    return found + [Polygon(*even_points(maker, sides)) for sides in SIDES for _ in range(15)]


def shuffled(maker, polygon, move):
    """The sticks in any order, and joint 0 moved."""
    sticks = list(polygon.sticks)
    maker.shuffle(sticks)
    x, y = polygon.points[0]
    return Polygon.from_sticks((x + move[0], y + move[1]), *sticks)


def any_goal(maker, polygon, most):
    """The sticks in any order, and joint 0 moved by differences of them, each taken at most so often."""
    vectors = differences(polygon.sticks)
    return shuffled(maker, polygon, summed([maker.randint(-most, most) for _ in vectors], vectors))


def after_flips(maker, polygon, count):
    return polygon.flipped(*[maker.randrange(len(polygon.points)) for _ in range(count)])
