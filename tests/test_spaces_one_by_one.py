"""Points 20 to 24: what spaces tell agrees with all vectors gone through one by one."""

import itertools
import unittest

from helps import RowTest, all_matrices, all_spaces, all_vectors, all_within, lead, span, units
from maprows.spaces import Space, extension, factors_for, inverse_of

SMALL = ((2, 0), (2, 1), (2, 2), (2, 3), (3, 1), (3, 2), (3, 3), (5, 1), (5, 2), (7, 2), (11, 1), (13, 1))
COUNTS = {
    (2, 0): 1, (2, 1): 2, (2, 2): 5, (2, 3): 16, (3, 1): 2, (3, 2): 6, (3, 3): 28, (5, 1): 2, (5, 2): 8, (7, 2): 10,
    (11, 1): 2, (13, 1): 2,
}
# Primes, heights and widths of which all matrices are gone through.
SHAPES = ((2, 0, 2), (2, 2, 0), (2, 2, 2), (2, 3, 2), (2, 2, 3), (3, 2, 2), (5, 1, 2), (5, 2, 1), (7, 1, 1), (13, 1, 1))


def leads(space):
    return [min(at for at, item in enumerate(row) if item != 0) for row in space.basis()]


class Spaces(RowTest):

    def test_membership_and_dimension(self):
        for prime, length in SMALL:
            found = all_spaces(prime, length)
            self.assertEqual(len(found), COUNTS[prime, length])
            for space, vectors in found:
                self.assertEqual(all_within(prime, space), vectors)
                self.assertEqual(prime ** len(space), len(vectors))
                self.assertEqual(span(prime, length, space.basis()), vectors)

    def test_bases_are_reduced(self):
        for prime, length in SMALL:
            for space, _ in all_spaces(prime, length):
                self.assertEqual(leads(space), sorted(set(leads(space))))
                for lead_of_one in leads(space):
                    column = [row[lead_of_one] for row in space.basis()]
                    self.assertEqual(sorted(column), [0] * (len(space) - 1) + [1])
                for at, row in zip(leads(space), space.basis()):
                    self.assertEqual(row[at], 1)

    def test_equality(self):
        for prime, length in SMALL:
            found = all_spaces(prime, length)
            for (one, vectors), (other, others) in itertools.product(found, found):
                self.assertIs(one == other, vectors == others)

    def test_any_vectors_of_a_space_make_it_if_they_span_it(self):
        for prime, length in ((2, 2), (2, 3), (3, 2)):
            by_vectors = {vectors: space for space, vectors in all_spaces(prime, length)}
            for given in itertools.product(all_vectors(prime, length), repeat=2):
                space = by_vectors[frozenset(span(prime, length, given))]
                self.assertEqual(Space(prime, length, given), space)
                self.same(Space(prime, length, given).basis(), space.basis())

    def test_rests(self):
        for prime, length in SMALL:
            for space, vectors in all_spaces(prime, length):
                for vector in all_vectors(prime, length):
                    right = [
                        other for other in all_vectors(prime, length)
                        if tuple((a - b) % prime for a, b in zip(vector, other)) in vectors
                        and all(other[at] == 0 for at in leads(space))
                    ]
                    self.same([space.rest(vector)], right)


class Pairs(RowTest):

    def test_sums_meets_and_inclusions(self):
        for prime, length in SMALL:
            found = all_spaces(prime, length)
            for (one, vectors), (other, others) in itertools.product(found, found):
                sums = {tuple((a + b) % prime for a, b in zip(x, y)) for x in vectors for y in others}
                self.assertEqual(all_within(prime, one + other), sums)
                self.assertEqual(all_within(prime, one & other), vectors & others)
                self.assertIs(one.lies_in(other), vectors <= others)

    def test_extensions(self):
        for prime, length in SMALL:
            found = all_spaces(prime, length)
            for (inner, vectors), (outer, others) in itertools.product(found, found):
                if vectors <= others:
                    added = extension(inner, outer)
                    self.assertEqual(len(added), len(outer) - len(inner))
                    self.assertEqual(span(prime, length, inner.basis() + added), others)


class Matrices(RowTest):

    def test_images(self):
        for prime, height, width in SHAPES:
            found = all_spaces(prime, height)
            for matrix in all_matrices(prime, height, width):
                for space, vectors in found:
                    image = space.image(matrix, width)
                    self.assertEqual(image.length, width)
                    reached = {lead(prime, vector, matrix, width) for vector in vectors}
                    self.assertEqual(all_within(prime, image), reached)

    def test_back_images(self):
        for prime, height, width in SHAPES:
            found = all_spaces(prime, width)
            for matrix in all_matrices(prime, height, width):
                ends = {vector: lead(prime, vector, matrix, width) for vector in all_vectors(prime, height)}
                for space, vectors in found:
                    back = space.back(matrix)
                    self.assertEqual(back.length, height)
                    self.assertEqual(all_within(prime, back), {vector for vector in ends if ends[vector] in vectors})

    def test_factors(self):
        for prime, height, width in SHAPES:
            for rows in all_matrices(prime, height, width):
                reached = span(prime, width, rows)
                for vector in all_vectors(prime, width):
                    factors = factors_for(prime, rows, vector)
                    self.assertEqual(factors is not None, vector in reached)
                    if factors is not None:
                        self.assertEqual(len(factors), height)
                        self.assertTrue(all(0 <= factor < prime for factor in factors))
                        self.assertEqual(lead(prime, factors, rows, width), vector)

    def test_inverses(self):
        for prime, size in ((2, 0), (2, 1), (2, 2), (2, 3), (3, 1), (3, 2), (5, 1), (5, 2), (7, 1), (11, 1), (13, 1)):
            for matrix in all_matrices(prime, size, size):
                back = {lead(prime, vector, matrix, size): vector for vector in all_vectors(prime, size)}
                expected = [back[unit] for unit in units(size)] if len(back) == prime ** size else None
                self.same(inverse_of(prime, matrix), expected)


if __name__ == "__main__":
    unittest.main()
