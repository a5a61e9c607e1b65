"""Another way to compute the least number of passes of all shifts that lead from a polygon to another one.

Turns say how often the stick at each place goes around: all sum to 0, and their multiples of the sticks to the move
of joint 0. For a quadrilateral, the turns of one stick are free; they settle those of the others if these come out
whole. What is left is one line of shifts, on which the least number is found by halving.
"""

from itertools import permutations
from math import gcd

from tests.rows import passes_of

FAR_END = 10 ** 90


def determinant(a, b, c):
    return (a[0] * (b[1] * c[2] - b[2] * c[1]) - b[0] * (a[1] * c[2] - a[2] * c[1])
            + c[0] * (a[1] * b[2] - a[2] * b[1]))


def solved(columns, target):
    """Three numerators and their denominator: the multiples of the columns that sum to the target."""
    a, b, c = columns
    return ([determinant(target, b, c), determinant(a, target, c), determinant(a, b, target)],
            determinant(a, b, c))


def narrowed(at, step, fixed, factor, modulus):
    """The numbers at + step * j for which fixed + factor * number is a multiple of the modulus; None if none is."""
    rate, rest = factor * step, -(fixed + factor * at)
    divisor = gcd(rate, modulus)
    if rest % divisor:
        return None
    small = abs(modulus) // divisor
    first = rest // divisor * pow(rate // divisor, -1, small) % small
    return at + step * first, step * small


def turn_lines(sticks, move):
    """Turns and a step, both lists: all turns that make the move are turns + count * step; None if there are none."""
    columns = [(1, x, y) for x, y in sticks]
    target = (0, *move)
    if len(sticks) == 3:
        upper, lower = solved(columns, target)
        return None if any(number % lower for number in upper) else ([number // lower for number in upper], [0] * 3)
    free = next(at for at in range(4) if determinant(*(columns[:at] + columns[at + 1:])))
    others = columns[:free] + columns[free + 1:]
    upper, lower = solved(others, target)
    change, _ = solved(others, tuple(-x for x in columns[free]))
    at, step = 0, 1
    for fixed, factor in zip(upper, change):
        found = narrowed(at, step, fixed, factor, lower)
        if found is None:
            return None
        at, step = found
    turns = [(fixed + factor * at) // lower for fixed, factor in zip(upper, change)]
    steps = [factor * step // lower for factor in change]
    return turns[:free] + [at] + turns[free:], steps[:free] + [step] + steps[free:]


def passes_at(order, turns, step, count):
    sides = len(order)
    return passes_of([place - sides * (turn + count * change) for place, turn, change in zip(order, turns, step)])


def least_on_line(order, turns, step):
    if not any(step):
        return passes_at(order, turns, step, 0)
    low, high = -FAR_END, FAR_END
    while low < high:
        middle = (low + high) // 2
        if passes_at(order, turns, step, middle + 1) >= passes_at(order, turns, step, middle):
            high = middle
        else:
            low = middle + 1
    return passes_at(order, turns, step, low)


def least_passes(start, goal):
    """The least number of passes for two plane polygons with three or four joints; None if no shift leads there."""
    sticks, wanted = start.sticks, goal.sticks
    move = (goal.points[0][0] - start.points[0][0], goal.points[0][1] - start.points[0][1])
    found = turn_lines(sticks, move)
    if found is None:
        return None
    turns, step = found
    numbers = [least_on_line(order, turns, step) for order in permutations(range(len(sticks)))
               if all(wanted[place] == stick for place, stick in zip(order, sticks))]
    return min(numbers) if numbers else None
