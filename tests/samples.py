"""Polygons that many tests use, as tuples of points; each run makes the same ones."""

from random import Random

FAR = 10 ** 15
SIDES = range(3, 9)


def any_points(maker, sides):
    return tuple((maker.randint(-9, 9), maker.randint(-9, 9)) for _ in range(sides))


def few_sticks_points(maker, sides):
    """At most three different sticks."""
    first = (maker.randint(-3, 3), maker.randint(-3, 3))
    second = (maker.randint(-3, 3), maker.randint(-3, 3))
    sticks = [maker.choice((first, second)) for _ in range(sides - 1)]
    points = [(maker.randint(-9, 9), maker.randint(-9, 9))]
    for x, y in sticks:
        points.append((points[-1][0] + x, points[-1][1] + y))
    return tuple(points)


def line_points(maker, sides):
    x, y = maker.randint(-9, 9), maker.randint(-9, 9)
    a, b = maker.choice(((1, 0), (0, 1), (2, -3), (-5, 7)))
    steps = [maker.randint(-9, 9) for _ in range(sides)]
    return tuple((x + a * step, y + b * step) for step in steps)


def far_points(maker, sides):
    return tuple((maker.choice((-FAR, FAR, maker.randint(-FAR, FAR))),
                  maker.choice((-FAR, FAR, maker.randint(-FAR, FAR)))) for _ in range(sides))


def one_point(maker, sides):
    return ((maker.randint(-9, 9), maker.randint(-9, 9)),) * sides


KINDS = (any_points, few_sticks_points, line_points, far_points, one_point)


def all_samples():
    maker = Random(20)
    return [kind(maker, sides) for sides in SIDES for kind in KINDS for _ in range(6)]


def simple_points(sides):
    """A plane polygon without equal joints."""
    return ((0, 0), (4, -1), (7, 1), (9, 5), (7, 8), (3, 9), (-1, 7), (-2, 3))[:sides]


def wrong_joints(sides):
    return (-1, -sides, -FAR, sides, sides + 1, 10 * sides, FAR)
