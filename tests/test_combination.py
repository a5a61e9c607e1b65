"""Sums of multiples of vectors: `combination`."""

import unittest
from itertools import product
from random import Random

from tests.lattices import is_sum, summed
from walkagon.reach.lattice import combination

SIZES = (1, 2, 9, 1000, 10 ** 13, 10 ** 15)


def any_vectors(maker, count, size):
    return tuple((maker.randint(-size, size), maker.randint(-size, size)) for _ in range(count))


def few_vectors(maker, count, size):
    some = any_vectors(maker, 2, size)
    return tuple(maker.choice(some) for _ in range(count))


def parallel_vectors(maker, count, size):
    x, y = maker.choice(((1, 0), (0, 1), (2, -3), (-4, 6), (1, 1)))
    factors = [maker.randint(-size // 6, size // 6) for _ in range(count)]
    return tuple((x * factor, y * factor) for factor in factors)


def even_vectors(maker, count, size):
    """Vectors whose sums leave out most points."""
    x, y = maker.randint(1, 6), maker.randint(1, 6)
    return tuple((a // x * x, b // y * y) for a, b in any_vectors(maker, count, size))


def some_zero_vectors(maker, count, size):
    return tuple(maker.choice(((0, 0), vector)) for vector in any_vectors(maker, count, size))


def end_vectors(maker, count, size):
    return tuple((maker.choice((-size, 0, size, size - 1)), maker.choice((-size, 0, size, 1 - size)))
                 for _ in range(count))


KINDS = (any_vectors, few_vectors, parallel_vectors, even_vectors, some_zero_vectors, end_vectors)


def samples():
    maker = Random(31)
    for kind, count, size in product(KINDS, range(9), SIZES):
        for _ in range(2):
            yield maker, kind(maker, count, size), size


class CombinationTest(unittest.TestCase):
    def assert_solves(self, vectors, target):
        found = combination(vectors, target)
        self.assertIs(type(found), tuple)
        self.assertEqual(len(found), len(vectors))
        for count in found:
            self.assertIs(type(count), int)
            self.assertLess(abs(count), 10 ** 1000)
        self.assertEqual(summed(found, vectors), target)

    def assert_answer(self, vectors, target):
        with self.subTest(vectors=vectors, target=target):
            if is_sum(vectors, target):
                self.assert_solves(vectors, target)
            else:
                self.assertIsNone(combination(vectors, target))

    def test_sums_of_multiples(self):
        for maker, vectors, size in samples():
            for most in (1, 3, 1000):
                multiples = [maker.randint(-most, most) for _ in vectors]
                with self.subTest(vectors=vectors, multiples=multiples):
                    self.assert_solves(vectors, summed(multiples, vectors))

    def test_sums_with_one_coordinate_changed(self):
        for maker, vectors, size in samples():
            x, y = summed([maker.randint(-3, 3) for _ in vectors], vectors)
            change = maker.choice((-1, 1, maker.randint(-size, size)))
            self.assert_answer(vectors, (x + change, y))
            self.assert_answer(vectors, (x, y + change))

    def test_any_targets(self):
        for maker, vectors, size in samples():
            for _ in range(3):
                self.assert_answer(vectors, (maker.randint(-size, size), maker.randint(-size, size)))
            for target in ((0, 0), (1, 0), (0, 1), (10 ** 15, -(10 ** 15))):
                self.assert_answer(vectors, target)

    def test_all_small_pairs(self):
        for a, b, c, d in product(range(-2, 3), repeat=4):
            for target in ((0, 0), (1, 0), (0, 2), (3, -1), (-2, 2)):
                self.assert_answer(((a, b), (c, d)), target)

    def test_known_answers(self):
        for vectors, target, expected in (
                (((2, 0), (0, 3)), (4, -3), (2, -1)),
                (((2, 0), (0, 3)), (3, 0), None),
                (((2, 0), (0, 3)), (0, 4), None),
                (((3, 6),), (-5, -10), None),
                (((3, 6),), (-6, -12), (-2,)),
                (((3, 6),), (3, 7), None),
                (((0, 0),), (0, 1), None),
                (((0, 0),), (1, 0), None),
                (((0, 5),), (0, -10), (-2,)),
                (((0, 5),), (1, 5), None),
                (((1, 1), (1, -1)), (1, 0), None),
                (((1, 1), (1, -1)), (2, 0), (1, 1))):
            with self.subTest(vectors=vectors, target=target):
                self.assertEqual(combination(vectors, target), expected)

    def test_no_vector(self):
        self.assertEqual(combination((), (0, 0)), ())
        for target in ((1, 0), (0, 1), (-1, 1), (0, 10 ** 15)):
            self.assertIsNone(combination((), target))

    def test_zero_vectors(self):
        for count in range(1, 9):
            self.assert_solves(((0, 0),) * count, (0, 0))
            self.assertIsNone(combination(((0, 0),) * count, (0, -1)))

    def test_large_common_divisors(self):
        primes = (2, 3, 5, 7, 11, 13, 17, 19, 23, 29, 31, 37)
        vectors = []
        for left_out in primes[-8:]:
            x = y = 1
            for prime in primes:
                x = x * prime if prime != left_out and x * prime <= 10 ** 13 else x
                y = y * prime if prime != left_out - 2 and y * prime <= 10 ** 15 else y
            vectors.append((x, -y))
        for target in ((1, 0), (0, 1), (30030, 0), (0, 30030), vectors[3]):
            self.assert_answer(tuple(vectors), target)

    def test_small_multiples(self):
        """Far below the promised length, so that flips can be repeated as often as the multiples say."""
        for _, vectors, size in samples():
            for target in ((0, 0), (size, -size), summed([1] * len(vectors), vectors)):
                found = combination(vectors, target)
                if found is not None:
                    self.assertLess(max(map(abs, found), default=0), 10 ** 34)

    def test_somewhat_beyond_the_limits(self):
        maker = Random(32)
        for count in (9, 10, 12):
            vectors = any_vectors(maker, count, 10 ** 20)
            self.assert_solves(vectors, summed([maker.randint(-9, 9) for _ in vectors], vectors))
            self.assert_answer(vectors, (10 ** 20, -1))

    def test_the_same_again_and_by_name(self):
        vectors = ((6, 4), (10, 0), (15, 1), (0, 0))
        found = combination(vectors, (1, 7))
        self.assertEqual(combination(target=(1, 7), vectors=vectors), found)
        self.assertEqual(vectors, ((6, 4), (10, 0), (15, 1), (0, 0)))

    def test_defined_in_its_file(self):
        self.assertEqual(combination.__module__, "walkagon.reach.lattice")


if __name__ == "__main__":
    unittest.main()
