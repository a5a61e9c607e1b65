"""Sums of multiples of vectors."""

from walkagon.reach.bases import basis, mixed
from walkagon.shapes.vectors import cross


def quotient_of(number, divisor):
    """The integer whose product with the divisor is the number; None if there is none."""
    if divisor == 0:
        return 0 if number == 0 else None
    return number // divisor if number % divisor == 0 else None


def directions(vectors):
    """The indexes of two vectors that are not parallel, or twice that of one that is not zero, or None."""
    for index, vector in enumerate(vectors):
        if vector != (0, 0):
            for other_index, other in enumerate(vectors):
                if cross(vector, other) != 0:
                    return index, other_index
            return index, index
    return None


def smaller(vectors, multiples):
    """Small multiples of the vectors with the same sum."""
    found = directions(vectors)
    if found is None:
        return multiples
    index, other_index = found
    first, second = vectors[index], vectors[other_index]
    if index == other_index:
        # All vectors are parallel, so that this one takes nothing from any of them.
        second = (-first[1], first[0])
    area = cross(first, second)
    results = list(multiples)
    for at, vector in enumerate(vectors):
        # The area times any vector is a sum of whole multiples of the first and the second one.
        excess = results[at] // area
        results[at] -= excess * area
        results[index] += excess * cross(vector, second)
        results[other_index] += excess * cross(first, vector)
    return tuple(results)


def combination(vectors, target):
    """A tuple of multiples of the vectors that sum to the target; None if there is none."""
    first, second = basis(vectors)
    across = quotient_of(target[0], first[0])
    if across is None:
        return None
    along = quotient_of(target[1] - across * first[1], second[1])
    if along is None:
        return None
    return smaller(vectors, mixed(across, first, along, second)[2:])
