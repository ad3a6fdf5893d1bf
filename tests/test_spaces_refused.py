"""Points 10 to 12 and 20 to 24 on wrong inputs: which exception is due first, and what it keeps."""

import unittest

from helps import (
    GREAT, PRIMES, RowTest, no_vectors, things, wrong_matrices, wrong_primes, wrong_sizes, wrong_vectors
)
from maprows.errors import InvalidMatrix, InvalidPrime, InvalidSize, InvalidVector, NotWithin, UnlikeSpaces
from maprows.spaces import Space, extension, factors_for, inverse_of


def no_lists():
    return things() + [0, 1, 3, GREAT]


def no_spaces():
    return [thing for thing in things() if not isinstance(thing, Space)]


def too_high(width):
    return [[(1,) * width] * 13, ([1] * width,) * 13, [(0,) * width] * 100]


class Making(RowTest):

    def test_exceptions_in_their_order(self):
        for length in (0, 1, 3, 12):
            good = {"prime": 5, "length": length, "vectors": [[1] * length, (2,) * length]}
            self.refuses_in_order(Space, good, [
                ("prime", InvalidPrime, wrong_primes()),
                ("length", InvalidSize, wrong_sizes()),
                ("vectors", InvalidVector, no_lists()),
            ])

    def test_items_come_last(self):
        vectors = [[1, 2], None]
        for prime in wrong_primes():
            self.refuses(InvalidPrime, prime, Space, prime, 3, vectors)
        for length in wrong_sizes():
            self.refuses(InvalidSize, length, Space, 5, length, vectors)

    def test_the_first_wrong_item_is_kept(self):
        for length in (0, 1, 2, 3, 12):
            right = [1] * length
            for wrong in wrong_vectors(length):
                with self.subTest(length=length, wrong=wrong):
                    self.refuses(InvalidVector, wrong, Space, 5, length, [wrong])
                    self.refuses(InvalidVector, wrong, Space, 5, length, (wrong, None))
                    among = [right, tuple(right), wrong, [None] * 20, right]
                    self.refuses(InvalidVector, wrong, Space, 5, length, among)

    def test_a_vector_is_no_list_of_vectors(self):
        vectors = (GREAT, 2, 3)
        self.refuses(InvalidVector, vectors[0], Space, 5, 3, vectors)
        self.refuses(InvalidVector, "a", Space, 5, 1, ["a", "b"])

    def test_lengths_up_to_twelve(self):
        for prime in PRIMES:
            self.assertEqual(Space(prime, 12).length, 12)
            self.refuses(InvalidSize, 13, Space, prime, 13)
            self.refuses(InvalidSize, -1, Space, prime, -1)

    def test_nothing_and_whole(self):
        for make in (Space.nothing, Space.whole):
            self.refuses_in_order(make, {"prime": 5, "length": 3}, [
                ("prime", InvalidPrime, wrong_primes()), ("length", InvalidSize, wrong_sizes()),
            ])


class Vectors(RowTest):

    def test_membership_and_rests(self):
        for length in (0, 1, 3, 12):
            for space in (Space.nothing(5, length), Space.whole(5, length)):
                for wrong in wrong_vectors(length):
                    with self.subTest(length=length, wrong=wrong):
                        self.refuses(InvalidVector, wrong, space.rest, wrong)
                        self.refuses(InvalidVector, wrong, space.rest, vector=wrong)
                        self.refuses(InvalidVector, wrong, lambda: wrong in space)
                        self.refuses(InvalidVector, wrong, lambda: wrong not in space)

    def test_spaces_are_no_vectors(self):
        space = Space(5, 2)
        self.refuses(InvalidVector, space, space.rest, space)
        self.refuses(InvalidVector, space, lambda: space in space)


class Unlike(RowTest):

    def questions(self, one, other):
        return (
            lambda: one + other, lambda: one & other, lambda: one.lies_in(other), lambda: extension(one, other),
        )

    def test_spaces_of_unlike_prime_or_length(self):
        pairs = [(Space(prime, 2), Space(other, 2)) for prime in PRIMES for other in PRIMES if prime != other]
        pairs += [(Space(5, one), Space(5, other)) for one in range(13) for other in range(13) if one != other]
        pairs += [(Space.whole(5, 2), Space.whole(7, 3)), (Space(5, 3, [(1, 2, 3)]), Space(5, 2, [(1, 2)]))]
        pairs += [(Space.whole(3, 2), Space.whole(2, 2)), (Space.whole(2, 3), Space.nothing(2, 2))]
        for one, other in pairs:
            for question in self.questions(one, other):
                self.refuses_plainly(UnlikeSpaces, question)

    def test_what_is_no_space_is_unlike_each_space(self):
        space = Space(5, 2, [(1, 2)])
        for thing in [*no_spaces(), 1, 5, [], [(1, 2)], ((1, 2),)]:
            with self.subTest(thing=thing):
                for question in self.questions(space, thing):
                    self.refuses_plainly(UnlikeSpaces, question)
                self.refuses_plainly(UnlikeSpaces, extension, thing, space)

    def test_unlike_comes_ahead_of_not_within(self):
        self.refuses_plainly(UnlikeSpaces, extension, Space.whole(5, 2), Space.nothing(7, 2))
        self.refuses_plainly(UnlikeSpaces, extension, Space.whole(5, 2), Space.nothing(5, 3))
        self.refuses_plainly(NotWithin, extension, Space.whole(5, 2), Space.nothing(5, 2))


class Images(RowTest):

    def test_image(self):
        for length, width in ((0, 0), (0, 2), (2, 0), (2, 2), (3, 1), (12, 2), (2, 12)):
            good = {"matrix": [[1] * width] * length, "width": width}
            self.refuses_in_order(Space.whole(5, length).image, good, [
                ("width", InvalidSize, wrong_sizes()), ("matrix", InvalidMatrix, wrong_matrices(length, width)),
            ])

    def test_image_is_refused_by_its_width_even_if_the_matrix_has_it(self):
        self.refuses(InvalidSize, 13, Space(5, 2).image, [(1,) * 13] * 2, 13)
        self.refuses(InvalidSize, 13, Space(5, 0).image, [], 13)
        self.refuses(InvalidSize, True, Space(5, 2).image, [(1,), (1,)], True)
        self.refuses(InvalidSize, False, Space(5, 2).image, [(), ()], False)

    def test_back(self):
        for length in (0, 1, 2, 12):
            for space in (Space.nothing(5, length), Space.whole(5, length)):
                self.refuses_in_order(space.back, {"matrix": [(1,) * length] * 12}, [
                    ("matrix", InvalidMatrix, wrong_matrices(None, length) + too_high(length)),
                ])

    def test_the_other_lengths(self):
        matrix = [(1, 2), (3, 4), (5, 6)]
        for length in (0, 1, 2, 4, 12):
            self.refuses(InvalidMatrix, matrix, Space(7, length).image, matrix, 2)
        for length in (0, 1, 3, 12):
            self.refuses(InvalidMatrix, matrix, Space(7, length).back, matrix)


class Factors(RowTest):

    def test_exceptions_in_their_order(self):
        for width in (0, 1, 2, 12):
            good = {"prime": 5, "rows": [(1,) * width] * 12, "vector": [1] * width}
            self.refuses_in_order(factors_for, good, [
                ("prime", InvalidPrime, wrong_primes()),
                ("vector", InvalidVector, no_vectors(12)),
                ("rows", InvalidMatrix, wrong_matrices(None, width) + too_high(width)),
            ])

    def test_the_width_of_the_rows_is_the_length_of_the_vector(self):
        rows = [(1, 2), (3, 4)]
        for length in (0, 1, 3, 12):
            self.refuses(InvalidMatrix, rows, factors_for, 5, rows, (0,) * length)

    def test_too_long_a_vector_with_rows_of_its_length(self):
        vector, rows = (1,) * 13, [(1,) * 13]
        self.refuses(InvalidVector, vector, factors_for, 5, rows, vector)


class Inverses(RowTest):

    def test_exceptions_in_their_order(self):
        for size in (0, 1, 2, 12):
            wrong = things() + [0, 3, [1], [[1, 2]], [[]], [(), ()], [(1,), (1,)], [(1, 2), (1,)], too_high(13)[0]]
            wrong += [[[1] * 12] * 11, [(1,) * 11] * 12, *too_high(12), *too_high(1), [(1,) * 14] * 14]
            if size > 0:
                # The matrix without rows has its height as its width.
                wrong += [matrix for matrix in wrong_matrices(size, size) if matrix != []]
            self.refuses_in_order(inverse_of, {"prime": 5, "matrix": [[1] * size] * size}, [
                ("prime", InvalidPrime, wrong_primes()), ("matrix", InvalidMatrix, wrong),
            ])

    def test_sizes_up_to_twelve(self):
        for size in (13, 14, 20):
            matrix = [tuple(int(row == column) for column in range(size)) for row in range(size)]
            self.refuses(InvalidMatrix, matrix, inverse_of, 5, matrix)


if __name__ == "__main__":
    unittest.main()
