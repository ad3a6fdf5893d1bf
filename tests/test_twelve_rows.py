"""Points 21 to 24 with many matrices of twelve rows: each answer held against the definitions."""

import unittest

from helps import GREAT, PRIMES, RowTest, lead, low_rank, sequence, some_matrix, units
from maprows.spaces import Space, factors_for, inverse_of


def rank(prime, rows):
    """The dimension of the space of all sums of multiples of rows, found by clearing one column after another."""
    rows = [[item % prime for item in row] for row in rows]
    found = 0
    for column in range(len(rows[0]) if rows else 0):
        pivots = [row for row in rows[found:] if row[column] != 0]
        if pivots:
            pivot = pivots[0]
            others = [row for row in rows if row is not pivot]
            for row in others[found:]:
                while row[column] != 0:
                    row[:] = [(item + more) % prime for item, more in zip(row, pivot)]
            rows = others[:found] + [pivot] + others[found:]
            found += 1
    return found


def matrices(seed, width, height=12):
    """Matrices of a width of many kinds, each with a prime."""
    numbers = sequence(seed)
    for at, prime in enumerate(PRIMES * 4):
        yield prime, [(0,) * width] * height
        yield prime, some_matrix(numbers, height, width, 0, prime - 1)
        yield prime, some_matrix(numbers, height, width, -GREAT, GREAT)
        yield prime, some_matrix(numbers, height, width, -3 * prime, -1)
        yield prime, low_rank(numbers, height, width, 1 + at % 11)
        yield prime, [some_matrix(numbers, 1, width, -5, 5)[0]] * height
        rows = some_matrix(numbers, height, width, 0, 40)
        yield prime, [(0,) * width if index % 3 == at % 3 else row for index, row in enumerate(rows)]
        yield prime, with_sums(numbers, rows)
        yield prime, [[0] * (width - 1 - index % max(width, 1)) + [1] * min(width, index % max(width, 1) + 1)
                      for index in range(height)]
        yield prime, [[prime * item for item in row] for row in rows]
        if width == height:
            yield prime, units(height)
            yield prime, units(height)[::-1]
            yield prime, [[1 + (column >= row) * (column + 2) for column in range(width)] for row in range(height)]


def with_sums(numbers, rows):
    """Rows of which every second one is the sum of two others and some multiple of a third."""
    rows = list(rows)
    for at in range(1, len(rows), 2):
        one, other, third = [rows[next(numbers) % len(rows)] for _ in range(3)]
        rows[at] = tuple(a + b - 3 * c for a, b, c in zip(one, other, third))
    return rows


class TwelveRows(RowTest):

    def is_reduced(self, space):
        basis = space.basis()
        leads = [min(at for at, item in enumerate(row) if item) for row in basis]
        self.assertEqual(leads, sorted(set(leads)))
        for row in basis:
            self.assertTrue(type(row) is tuple and all(type(item) is int and 0 <= item < space.prime for item in row))
            self.assertEqual(len(row), space.length)
        for at in leads:
            self.assertEqual(sorted(row[at] for row in basis), [0] * (len(basis) - 1) + [1])

    def test_back(self):
        for length in (12, 6, 1, 0):
            for at, (prime, matrix) in enumerate(matrices(81 + length, length)):
                rows = low_rank(sequence(at), at % (length + 2), length, 12)
                if at % 5 == 0 and length > 0:
                    rows = matrix[:at % 7]
                space = Space(prime, length, rows)
                found = self.keeps_arguments(space.back, matrix)
                self.same([found.prime, found.length], [prime, 12])
                self.is_reduced(found)
                for vector in found.basis():
                    self.assertIn(lead(prime, vector, matrix, length), space)
                beyond = rank(prime, [*rows, *matrix]) - rank(prime, rows)
                self.assertEqual(len(found), 12 - beyond)

    def test_meets(self):
        for at, (prime, matrix) in enumerate(matrices(83, 12)):
            for many in ((6, 6), (1, 11), (9, 7), (12, 5), (at % 13, 12)):
                others = [*matrix[:at % 4], *low_rank(sequence(at), many[1], 12, 9)][:many[1]]
                one, other = Space(prime, 12, matrix[:many[0]]), Space(prime, 12, others)
                found = one & other
                self.is_reduced(found)
                for vector in found.basis():
                    self.assertTrue(vector in one and vector in other)
                both = rank(prime, [*matrix[:many[0]], *others])
                self.assertEqual([len(one), len(other)], [rank(prime, matrix[:many[0]]), rank(prime, others)])
                self.assertEqual(len(found), len(one) + len(other) - both)
                self.assertTrue(other & one == found)
                self.assertEqual(len(one + other), both)
                self.is_reduced(one + other)

    def test_images(self):
        for at, (prime, matrix) in enumerate(matrices(85, 12)):
            rows = low_rank(sequence(at), at % 13, 12, 12)
            found = Space(prime, 12, rows).image(matrix, 12)
            self.is_reduced(found)
            led = [lead(prime, row, matrix, 12) for row in rows]
            for vector in led:
                self.assertIn(vector, found)
            self.assertEqual(len(found), rank(prime, led))

    def test_inverses(self):
        for at, (prime, matrix) in enumerate(matrices(87, 12)):
            if at % 3 == 0:
                matrix = [tuple(row) for row in matrix]
            found = self.keeps_arguments(inverse_of, prime, matrix)
            if rank(prime, matrix) < 12:
                self.assertIsNone(found)
            else:
                self.same([lead(prime, row, matrix, 12) for row in found], units(12))
                self.same([lead(prime, row, found, 12) for row in matrix], units(12))
                self.assertTrue(all(0 <= item < prime for row in found for item in row))

    def test_factors(self):
        for width in (12, 5, 1):
            for at, (prime, matrix) in enumerate(matrices(89 + width, width)):
                numbers = sequence(at)
                vectors = some_matrix(numbers, 2, width, -GREAT, GREAT) + [(0,) * width, matrix[at % 12]]
                vectors += [lead(prime, factors, matrix, width) for factors in some_matrix(numbers, 2, 12)]
                for vector in vectors:
                    found = self.keeps_arguments(factors_for, prime, matrix, vector)
                    if rank(prime, [*matrix, vector]) > rank(prime, matrix):
                        self.assertIsNone(found)
                    else:
                        self.assertTrue(type(found) is list and len(found) == 12)
                        self.assertTrue(all(type(item) is int and 0 <= item < prime for item in found))
                        self.same(lead(prime, found, matrix, width), tuple(item % prime for item in vector))


if __name__ == "__main__":
    unittest.main()
