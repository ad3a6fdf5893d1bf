"""Points 10 to 12 and 14 to 16: integers modulo a prime, and matrices."""

import itertools
import unittest

import maprows.rests
from helps import (
    GREAT, PRIMES, RowTest, all_matrices, all_vectors, lead, no_vectors, sequence, some_matrix, things,
    units, wrong_matrices, wrong_primes
)
from maprows.errors import InvalidMatrix, InvalidPrime, InvalidVector, NoInverse
from maprows.rests import exchanged, inverse, is_integer, is_matrix, is_prime, joined, led

NAMES = ("is_integer", "is_prime", "inverse", "is_matrix", "led", "joined", "exchanged")


class Interface(unittest.TestCase):

    def test_functions_are_defined_in_the_file(self):
        for name in NAMES:
            self.assertEqual(getattr(maprows.rests, name).__module__, "maprows.rests")


class Integers(unittest.TestCase):

    def test_integers_of_any_size(self):
        for value in (0, 1, -1, 2, 13, GREAT, -GREAT):
            self.assertIs(is_integer(value), True)

    def test_other_kinds(self):
        for value in things() + [[], [1], (1,), [True]]:
            with self.subTest(value=value):
                self.assertIs(is_integer(value), False)
                self.assertIs(is_integer(value, 0, 1), False)
                self.assertIs(is_integer(value, -GREAT, GREAT), False)

    def test_bounds(self):
        bounds = (None, -GREAT, -2, -1, 0, 1, 2, GREAT)
        for value, low, high in itertools.product((-GREAT, -3, -2, -1, 0, 1, 2, 3, GREAT), bounds, bounds):
            expected = (low is None or low <= value) and (high is None or value <= high)
            with self.subTest(value=value, low=low, high=high):
                self.assertIs(is_integer(value, low, high), expected)
                self.assertIs(is_integer(value=value, low=low, high=high), expected)

    def test_one_bound_alone(self):
        self.assertIs(is_integer(2, 3), False)
        self.assertIs(is_integer(3, 3), True)
        self.assertIs(is_integer(3, high=3), True)
        self.assertIs(is_integer(4, high=3), False)
        self.assertIs(is_integer(-1, high=0), True)
        self.assertIs(is_integer(-1, 0), False)


class Primes(unittest.TestCase):

    def test_the_six_primes_and_no_other_integer(self):
        for value in range(-20, 60):
            self.assertIs(is_prime(value), value in PRIMES)
        for value in (GREAT, -GREAT, 10 ** 9 + 7):
            self.assertIs(is_prime(value), False)
        self.assertIs(is_prime(value=11), True)

    def test_other_kinds(self):
        for value in wrong_primes():
            with self.subTest(value=value):
                self.assertIs(is_prime(value), False)


class Inverses(RowTest):

    def test_products_are_one(self):
        for prime in PRIMES:
            for number in (*range(-40, 41), GREAT, -GREAT, 10 ** 29, -(10 ** 29) - 1):
                if number % prime != 0:
                    with self.subTest(number=number, prime=prime):
                        found = inverse(number, prime)
                        self.assertIs(type(found), int)
                        self.assertTrue(1 <= found <= prime - 1)
                        self.assertEqual(found * number % prime, 1)

    def test_multiples_of_the_prime(self):
        for prime in PRIMES:
            for number in (0, prime, -prime, 3 * prime, prime ** 3, -prime * 10 ** 28):
                self.refuses(NoInverse, number, inverse, number, prime)

    def test_names(self):
        self.assertEqual(inverse(number=3, prime=7), 5)
        self.assertEqual(inverse(prime=7, number=3), 5)

    def test_the_prime_is_checked_first(self):
        for prime in wrong_primes():
            for number in (1, 0, 10, None, "x"):
                with self.subTest(prime=prime):
                    self.refuses(InvalidPrime, prime, inverse, number, prime)

    def test_what_is_no_integer_has_no_inverse(self):
        for value in things() + [[1], (1,)]:
            with self.subTest(value=value):
                self.refuses(NoInverse, value, inverse, value, 5)


class IsMatrix(unittest.TestCase):

    def test_heights_and_widths(self):
        sizes = (0, 1, 2, 3, 11, 12, 13, 20)
        for height, width in itertools.product(sizes, sizes):
            forms = (
                [(1,) * width] * height, ((0,) * width,) * height, [[-1] * width] * height,
                tuple([[GREAT] * width] * height),
            )
            for matrix in forms:
                self.assertIs(is_matrix(matrix, height, width), True)
                self.assertIs(is_matrix(matrix, height + 1, width), False)
                self.assertIs(is_matrix(matrix, height, width + 1), height == 0)
                if height > 0:
                    self.assertIs(is_matrix(matrix, height - 1, width), False)
                if width > 0:
                    self.assertIs(is_matrix(matrix, height, width - 1), height == 0)

    def test_rows_of_both_kinds(self):
        self.assertIs(is_matrix([(1, 2), [3, 4]], 2, 2), True)
        self.assertIs(is_matrix(([1, 2], (3, 4)), 2, 2), True)
        self.assertIs(is_matrix(value=[(1, 2)], height=1, width=2), True)

    def test_no_matrices(self):
        for height, width in itertools.product((0, 1, 2, 3, 12), (0, 1, 2, 12)):
            for value in wrong_matrices(height, width):
                with self.subTest(value=value, height=height, width=width):
                    self.assertIs(is_matrix(value, height, width), False)

    def test_strings_and_dicts_are_no_lists(self):
        flat, deep = (("", 0, 0), ({}, 0, 0)), (([""], 1, 0), ([{}], 1, 0), ([{0: 1}], 1, 1), (["1"], 1, 1))
        for value, height, width in flat + deep:
            with self.subTest(value=value):
                self.assertIs(is_matrix(value, height, width), False)


class Led(RowTest):

    def test_all_small_vectors_and_matrices(self):
        for prime, height, width in ((2, 2, 2), (2, 3, 1), (2, 1, 3), (3, 2, 1), (3, 1, 2), (3, 2, 2), (5, 1, 1)):
            for matrix in all_matrices(prime, height, width):
                for vector in all_vectors(prime, height):
                    self.same(led(prime, vector, matrix, width), lead(prime, vector, matrix, width))

    def test_items_are_taken_modulo_each_prime(self):
        numbers = sequence(1)
        for prime in PRIMES:
            for height, width in ((1, 1), (2, 3), (12, 12), (13, 1), (20, 30)):
                matrix = some_matrix(numbers, height, width, -(10 ** 29), 10 ** 29)
                vector = some_matrix(numbers, 1, height, -(10 ** 29), 10 ** 29)[0]
                expected = lead(prime, vector, matrix, width)
                self.same(led(prime, vector, matrix, width), expected)
                self.same(led(prime, list(vector), tuple(list(row) for row in matrix), width), expected)
        self.same(led(5, (-1,), [(1, -1, 7)], 3), (4, 1, 3))
        self.same(led(2, [GREAT], [[GREAT]], 1), (1,))

    def test_without_rows_and_without_items(self):
        for width in (0, 1, 2, 12, 13):
            self.same(led(5, (), [], width), (0,) * width)
            self.same(led(5, [], (), width), (0,) * width)
        for height in (0, 1, 12, 13):
            self.same(led(5, (1,) * height, [()] * height, 0), ())
            self.same(led(5, [1] * height, ([],) * height, 0), ())

    def test_arguments_stay(self):
        self.keeps_arguments(led, 5, [7, -1], [[6, 8], [-1, 0]], 2)

    def test_exceptions_in_their_order(self):
        for height, width in ((2, 2), (1, 3), (0, 0), (0, 2), (2, 0), (12, 1)):
            good = {"prime": 5, "vector": [1] * height, "matrix": [(1,) * width] * height, "width": width}
            self.refuses_in_order(led, good, [
                ("prime", InvalidPrime, wrong_primes()),
                ("vector", InvalidVector, no_vectors()),
                ("matrix", InvalidMatrix, wrong_matrices(height, width)),
            ])

    def test_the_height_is_the_length_of_the_vector(self):
        matrix = [(1, 2), (3, 4)]
        for length in (0, 1, 3, 13):
            self.refuses(InvalidMatrix, matrix, led, 5, (1,) * length, matrix, 2)
        for width in (0, 1, 3):
            self.refuses(InvalidMatrix, matrix, led, 5, (1, 1), matrix, width)


class Joined(RowTest):

    def test_leads_as_one_and_then_the_other(self):
        for prime, low, middle, high in ((2, 2, 2, 2), (2, 1, 2, 3), (2, 3, 1, 2), (3, 1, 2, 1), (3, 2, 1, 2)):
            for one in all_matrices(prime, low, middle):
                for other in all_matrices(prime, middle, high):
                    expected = [lead(prime, lead(prime, unit, one, middle), other, high) for unit in units(low)]
                    self.same(joined(prime, one, other, high), expected)

    def test_great_items(self):
        numbers = sequence(2)
        for prime in PRIMES:
            for low, middle, high in ((1, 1, 1), (2, 3, 4), (12, 12, 12), (13, 2, 14)):
                one = some_matrix(numbers, low, middle, -(10 ** 29), 10 ** 29)
                other = some_matrix(numbers, middle, high, -(10 ** 29), 10 ** 29)
                expected = [lead(prime, row, other, high) for row in one]
                self.same(joined(prime, one, other, high), expected)
                self.same(joined(prime, tuple(list(row) for row in one), tuple(other), high), expected)

    def test_without_rows_and_without_items(self):
        for width in (0, 1, 3, 12):
            self.same(joined(5, [], [], width), [])
            self.same(joined(5, [(), ()], [], width), [(0,) * width] * 2)
            self.same(joined(5, [], [(1,) * width] * 2, width), [])
        self.same(joined(5, [(1, 2), [3, 4], (5, 6)], [(), []], 0), [(), (), ()])

    def test_names(self):
        self.same(joined(prime=5, one=[(1, 2)], other=[(1, 0), (3, 1)], width=2), [(2, 2)])

    def test_what_is_returned_is_new(self):
        one, other = [[1, 0], [0, 1]], [[1, 2], [3, 4]]
        found = self.keeps_arguments(joined, 5, one, other, 2)
        found.append((9, 9))
        found[0] = None
        self.same(joined(5, one, other, 2), [(1, 2), (3, 4)])
        self.same((one, other), ([[1, 0], [0, 1]], [[1, 2], [3, 4]]))

    def test_exceptions_in_their_order(self):
        for low, middle, high in ((2, 2, 2), (1, 2, 3), (2, 1, 0), (0, 2, 1), (12, 1, 2)):
            good = {"prime": 5, "one": [[1] * middle] * low, "other": [(1,) * high] * middle, "width": high}
            self.refuses_in_order(joined, good, [
                ("prime", InvalidPrime, wrong_primes()),
                ("other", InvalidMatrix, wrong_matrices(None, high)),
                ("one", InvalidMatrix, wrong_matrices(None, middle)),
            ])

    def test_the_width_of_one_is_the_height_of_the_other(self):
        one, other = [(1, 2), (3, 4)], [(1,), (2,), (3,)]
        self.refuses(InvalidMatrix, one, joined, 5, one, other, 1)
        self.refuses(InvalidMatrix, other, joined, 5, one, other, 2)
        self.refuses(InvalidMatrix, one, joined, 5, one, [], 2)
        self.refuses(InvalidMatrix, other, joined, 5, None, other, 3)


class Exchanged(RowTest):

    def test_rows_are_columns(self):
        numbers = sequence(3)
        for prime in PRIMES:
            for height, width in ((1, 1), (2, 3), (3, 2), (12, 12), (1, 13), (13, 1)):
                matrix = some_matrix(numbers, height, width, -(10 ** 29), 10 ** 29)
                expected = [tuple(matrix[row][column] % prime for row in range(height)) for column in range(width)]
                self.same(exchanged(prime, matrix, width), expected)
                self.same(exchanged(prime, tuple(list(row) for row in matrix), width), expected)

    def test_without_rows_and_without_items(self):
        for width in (0, 1, 3, 12):
            self.same(exchanged(3, [], width), [()] * width)
            self.same(exchanged(3, (), width), [()] * width)
        for height in (0, 1, 12):
            self.same(exchanged(3, [()] * height, 0), [])

    def test_names(self):
        self.same(exchanged(prime=3, matrix=[(1, 2, 4)], width=3), [(1,), (2,), (1,)])

    def test_what_is_returned_is_new(self):
        matrix = [[6, -1], [0, 3]]
        found = self.keeps_arguments(exchanged, 5, matrix, 2)
        found.append(None)
        self.same(exchanged(5, matrix, 2), [(1, 0), (4, 3)])

    def test_exceptions_in_their_order(self):
        for height, width in ((2, 2), (1, 3), (2, 0), (0, 2), (12, 12)):
            good = {"prime": 5, "matrix": [[1] * width] * height, "width": width}
            self.refuses_in_order(exchanged, good, [
                ("prime", InvalidPrime, wrong_primes()),
                ("matrix", InvalidMatrix, wrong_matrices(None, width)),
            ])


if __name__ == "__main__":
    unittest.main()
