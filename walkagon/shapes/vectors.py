"""Arithmetic of points and vectors, which are pairs of integers."""


def plus(first, second):
    """The sum of two vectors."""
    return first[0] + second[0], first[1] + second[1]


def minus(first, second):
    """The first vector without the second one."""
    return first[0] - second[0], first[1] - second[1]


def cross(first, second):
    """The cross product of two vectors."""
    return first[0] * second[1] - first[1] * second[0]


def total(vectors):
    """The sum of any number of vectors."""
    return sum([vector[0] for vector in vectors]), sum([vector[1] for vector in vectors])


def differences(vectors):
    """The list of the differences of each vector but the first one and the first one."""
    return [minus(vector, vectors[0]) for vector in vectors[1:]]


def scaled(vector, factor):
    """The multiple of a vector."""
    return vector[0] * factor, vector[1] * factor
