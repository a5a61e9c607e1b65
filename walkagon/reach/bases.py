"""Bases of the sums of multiples of vectors.

A row is a tuple that begins with a vector; behind it stand the multiples of the given vectors that sum to it.
"""


def mixed(factor, row, other_factor, other):
    """The sum of the multiples of two rows."""
    return tuple([factor * item + other_factor * beside for item, beside in zip(row, other)])


def cleared(row, other, column):
    """Two rows for the same sums of multiples; at the column, the first has no less than 0, the second has 0."""
    while other[column] != 0:
        quotient = row[column] // other[column]
        row, other = other, mixed(1, row, -quotient, other)
    if row[column] < 0:
        row = mixed(-1, row, 0, row)
    return row, other


def basis(vectors):
    """Two rows whose vectors (x, y) and (0, h) have the same sums of multiples as the given vectors.

    Neither x nor h is less than 0, and y is 0 if x is 0.
    """
    count = len(vectors)
    first = (0,) * (count + 2)
    second = first
    for index, vector in enumerate(vectors):
        unit = [1 if at == index else 0 for at in range(count)]
        first, rest = cleared(first, (*vector, *unit), 0)
        second, _ = cleared(second, rest, 1)
        # This changes no sums, but keeps the numbers in the rows small.
        if second[1] != 0:
            first = mixed(1, first, -(first[1] // second[1]), second)
    return first, second
