"""Points 20 to 24 on ordinary inputs and at the edges that the document names."""

import unittest

import maprows.spaces
from helps import GREAT, PRIMES, RowTest, lead, low_rank, sequence, some_matrix, things, units
from maprows.errors import InvalidMatrix, InvalidVector, NotWithin, UnlikeSpaces
from maprows.rests import joined, led
from maprows.spaces import Space, extension, factors_for, inverse_of

LISTED = (
    "nothing", "whole", "prime", "length", "basis", "rest", "lies_in", "image", "back",
    "__init__", "__len__", "__eq__", "__contains__", "__add__", "__and__",
)


def leading(row):
    """The index of the first item other than 0."""
    return min(at for at, item in enumerate(row) if item != 0)


class Interface(unittest.TestCase):

    def test_methods_are_defined_in_the_class(self):
        for name in LISTED:
            self.assertIn(name, vars(Space))
        for name in ("Space", "extension", "factors_for", "inverse_of"):
            self.assertEqual(getattr(maprows.spaces, name).__module__, "maprows.spaces")


class SpaceTest(RowTest):

    def is_reduced(self, basis, prime, length):
        """A basis is a list of tuples in the form that point 21 tells."""
        self.assertIs(type(basis), list)
        for row in basis:
            self.assertIs(type(row), tuple)
            self.assertEqual(len(row), length)
            for item in row:
                self.assertIs(type(item), int)
                self.assertTrue(0 <= item < prime)
        leads = [leading(row) for row in basis]
        self.assertEqual(leads, sorted(set(leads)))
        for at, index in enumerate(leads):
            self.assertEqual([row[index] for row in basis], [int(other == at) for other in range(len(basis))])


class Making(SpaceTest):

    def test_bases(self):
        told = (
            (5, 3, [(2, 4, 1), (1, 2, 3)], [(1, 2, 3)]),
            (5, 3, [], []),
            (5, 3, [(0, 0, 0)], []),
            (5, 3, [(5, 10, -5)], []),
            (2, 2, [(1, 1), (0, 1)], [(1, 0), (0, 1)]),
            (7, 3, [(0, 0, 3), (0, 2, 1)], [(0, 1, 0), (0, 0, 1)]),
            (7, 4, [(0, 2, 4, 6), (3, 0, 3, 0)], [(1, 0, 1, 0), (0, 1, 2, 3)]),
            (11, 2, [(-1, 1)], [(1, 10)]),
            (13, 1, [(10 ** 29,)], [(1,)]),
            (3, 1, [(GREAT,)], []),
            (3, 3, [(0, 1, 1), (1, 1, 0), (1, 2, 1)], [(1, 0, 2), (0, 1, 1)]),
            (3, 4, [(0, 0, 0, 2), (0, 1, 1, 0), (1, 1, 0, 0)], [(1, 0, 2, 0), (0, 1, 1, 0), (0, 0, 0, 1)]),
        )
        for prime, length, vectors, expected in told:
            for given in (vectors, tuple(vectors), [list(vector) for vector in vectors]):
                with self.subTest(prime=prime, given=given):
                    space = Space(prime, length, given)
                    self.same(space.basis(), expected)
                    self.same((len(space), space.prime, space.length), (len(expected), prime, length))

    def test_without_vectors(self):
        for prime in PRIMES:
            for length in range(13):
                self.assertEqual(Space(prime, length), Space.nothing(prime, length))
                self.assertEqual(Space(prime, length, ()), Space(prime, length, [[0] * length]))

    def test_names(self):
        space = Space(prime=5, length=2, vectors=[(1, 2)])
        self.same((space.prime, space.length, space.basis()), (5, 2, [(1, 2)]))
        self.assertEqual(Space.nothing(prime=5, length=2), Space(5, 2))
        self.assertEqual(Space.whole(prime=5, length=2), Space(5, 2, [(1, 1), (1, 2)]))

    def test_nothing_and_whole_of_each_length(self):
        for prime in PRIMES:
            for length in range(13):
                nothing, whole = Space.nothing(prime, length), Space.whole(prime, length)
                for space, basis in ((nothing, []), (whole, units(length))):
                    self.assertIs(type(space), Space)
                    self.same(space.basis(), basis)
                    self.same((len(space), space.prime, space.length), (len(basis), prime, length))
                self.assertIs(nothing.lies_in(whole), True)
                self.assertIs(whole.lies_in(nothing), length == 0)
                self.assertIs((1,) * length in whole, True)
                self.assertIs((1,) * length in nothing, length == 0)

    def test_length_nothing(self):
        space = Space(5, 0, [(), [], ()])
        self.same((space.basis(), len(space), () in space, space.rest([])), ([], 0, True, ()))
        self.assertEqual(space, Space.whole(5, 0))
        self.assertEqual(space, Space.nothing(5, 0))

    def test_many_vectors(self):
        numbers = sequence(4)
        for prime in PRIMES:
            for rank in (0, 1, 5, 11, 12):
                vectors = low_rank(numbers, 100, 12, rank)
                space = Space(prime, 12, vectors)
                self.is_reduced(space.basis(), prime, 12)
                self.assertTrue(len(space) <= rank)
                for vector in vectors:
                    self.assertIs(vector in space, True)

    def test_great_items_count_modulo_the_prime(self):
        numbers = sequence(5)
        for prime in PRIMES:
            vectors = some_matrix(numbers, 3, 6, -(10 ** 29), 10 ** 29)
            low = [tuple(item % prime for item in vector) for vector in vectors]
            self.assertEqual(Space(prime, 6, vectors), Space(prime, 6, low))
            self.is_reduced(Space(prime, 6, vectors).basis(), prime, 6)

    def test_arguments_are_copied(self):
        vectors = [[1, 2, 3], [0, 1, 6]]
        space = self.keeps_arguments(Space, 5, 3, vectors)
        vectors[0][1] = 4
        vectors[1].append(3)
        vectors.append((0, 0, 1))
        self.same(space.basis(), [(1, 0, 1), (0, 1, 1)])


class Equality(RowTest):

    def test_the_same_vectors(self):
        space = Space(5, 3, [(1, 2, 3), (0, 1, 1)])
        two = ([(0, 1, 1), (1, 2, 3)], [(1, 3, 4), (2, 4, 6)], [(1, 0, 1), (0, 1, 1)])
        for vectors in (*two, [(1, 2, 3), (0, 1, 1), (1, 3, 4)]):
            self.assertIs(space == Space(5, 3, vectors), True)
            self.assertIs(space != Space(5, 3, vectors), False)
        for vectors in ([], [(1, 2, 3)], [(0, 1, 1)], [(1, 2, 3), (0, 1, 2)], units(3)):
            self.assertIs(space == Space(5, 3, vectors), False)
            self.assertIs(space != Space(5, 3, vectors), True)

    def test_unlike_primes_and_lengths(self):
        for prime in PRIMES:
            for other in PRIMES:
                self.assertIs(Space(prime, 2) == Space(other, 2), prime == other)
                self.assertIs(Space.whole(prime, 2) == Space.whole(other, 2), prime == other)
        for length in range(13):
            for other in range(13):
                self.assertIs(Space(3, length) == Space(3, other), length == other)
        self.assertIs(Space(5, 1, [(1,)]) == Space(7, 1, [(1,)]), False)

    def test_other_kinds_are_never_equal(self):
        space = Space(5, 2, [(1, 3)])
        for value in (*things(), 1, [(1, 3)], ((1, 3),), [], (5, 2, [(1, 3)]), Space):
            self.assertIs(space == value, False)
            self.assertIs(value == space, False)
            self.assertIs(space != value, True)
        self.assertIs(Space(5, 0) == [], False)


class Vectors(RowTest):

    def test_membership(self):
        space = Space(5, 3, [(1, 2, 3)])
        for vector in ((1, 2, 8), [2, 4, 1], (0, 0, 0), [-1, -2, -3], (5, 10, 15), (10 ** 29 + 1, 2, 3)):
            self.assertIs(vector in space, True)
            self.assertIs(vector not in space, False)
        for vector in ((1, 2, 4), [0, 0, 1], (0, 1, 0), (1, 0, 0), (1, -2, 3)):
            self.assertIs(vector in space, False)
            self.assertIs(vector not in space, True)

    def test_rests(self):
        space = Space(5, 3, [(1, 2, 3)])
        self.same(space.rest((1, 1, 1)), (0, 4, 3))
        self.same(space.rest([1, 2, 3]), (0, 0, 0))
        self.same(space.rest([-1, 0, GREAT]), (0, 2, (GREAT + 3) % 5))
        self.same(space.rest(vector=(0, 0, 7)), (0, 0, 2))
        self.same(Space.nothing(7, 2).rest([8, -1]), (1, 6))
        self.same(Space.whole(7, 2).rest([8, -1]), (0, 0))
        self.same(Space(2, 3, [(0, 1, 1)]).rest((1, 1, 0)), (1, 0, 1))

    def test_great_spaces(self):
        numbers = sequence(6)
        for prime in PRIMES:
            for rank in (0, 1, 6, 12):
                space = Space(prime, 12, low_rank(numbers, 12, 12, rank))
                for vector in some_matrix(numbers, 5, 12, -(10 ** 29), 10 ** 29):
                    rest = space.rest(vector)
                    self.assertIs(type(rest), tuple)
                    self.assertTrue(all(0 <= item < prime for item in rest))
                    self.assertEqual([rest[leading(row)] for row in space.basis()], [0] * len(space))
                    self.assertIn([a - b for a, b in zip(vector, rest)], space)
                    self.assertEqual(vector in space, rest == (0,) * 12)

    def test_arguments_stay(self):
        space = Space(5, 3, [(1, 2, 3)])
        self.keeps_arguments(space.rest, [7, -1, 3])
        self.keeps_arguments(space.__contains__, [7, -1, 3])
        self.same(space.basis(), [(1, 2, 3)])


class Sums(RowTest):

    def test_sums_and_meets(self):
        one, other = Space(5, 3, [(1, 0, 0), (0, 1, 0)]), Space(5, 3, [(0, 1, 1), (1, 0, 2)])
        self.assertEqual(one + other, Space.whole(5, 3))
        self.assertEqual(one & other, Space(5, 3, [(1, 3, 0)]))
        self.same((one & other).basis(), [(1, 3, 0)])
        for found in (one + other, one & other):
            self.assertIs(type(found), Space)
            self.same((found.prime, found.length), (5, 3))

    def test_with_nothing_with_whole_and_with_itself(self):
        for prime in PRIMES:
            for length in (0, 1, 2, 12):
                nothing, whole = Space.nothing(prime, length), Space.whole(prime, length)
                for space in (nothing, whole, Space(prime, length, [(1,) * length])):
                    self.assertEqual(space + nothing, space)
                    self.assertEqual(nothing + space, space)
                    self.assertEqual(space + whole, whole)
                    self.assertEqual(space & nothing, nothing)
                    self.assertEqual(space & whole, space)
                    self.assertEqual(whole & space, space)
                    self.assertEqual(space + space, space)
                    self.assertEqual(space & space, space)

    def test_great_spaces(self):
        numbers = sequence(7)
        for prime in PRIMES:
            for rank, other_rank in ((3, 4), (6, 6), (9, 8), (11, 12)):
                vectors, others = low_rank(numbers, 12, 12, rank), low_rank(numbers, 12, 12, other_rank)
                one, other = Space(prime, 12, vectors), Space(prime, 12, others)
                both, meet = one + other, one & other
                self.assertEqual(both, Space(prime, 12, vectors + others))
                self.assertEqual(both, other + one)
                self.assertEqual(meet, other & one)
                self.assertEqual(len(both) + len(meet), len(one) + len(other))
                for space in (one, other):
                    self.assertIs(space.lies_in(both), True)
                    self.assertIs(meet.lies_in(space), True)
                    self.assertEqual(space.lies_in(meet), len(space) == len(meet))

    def test_operands_stay(self):
        one, other = Space(5, 2, [(1, 2)]), Space(5, 2, [(0, 1)])
        held = one
        one += other
        self.assertEqual(one, Space.whole(5, 2))
        self.same((held.basis(), other.basis()), ([(1, 2)], [(0, 1)]))
        held &= other
        self.same((held.basis(), other.basis()), ([], [(0, 1)]))


class Inclusion(RowTest):

    def test_lies_in(self):
        line, plane = Space(5, 3, [(1, 2, 3)]), Space(5, 3, [(1, 0, 1), (0, 1, 1)])
        self.assertIs(line.lies_in(plane), True)
        self.assertIs(plane.lies_in(line), False)
        self.assertIs(line.lies_in(line), True)
        self.assertIs(line.lies_in(other=Space(5, 3, [(1, 2, 4)])), False)
        self.assertIs(plane.lies_in(Space(5, 3, [(1, 2, 3), (0, 0, 1)])), False)


class Images(SpaceTest):

    def test_images(self):
        one = Space(5, 3, [(1, 2, 3)])
        self.same(one.image([(1, 0), (0, 1), (1, 1)], 2).basis(), [(1, 0)])
        self.same(one.image(matrix=([1], [1], [-1]), width=1).basis(), [])
        self.same(Space.whole(5, 2).image([(6, GREAT), [-4, GREAT]], 2).basis(), [(1, GREAT % 5)])

    def test_widths_and_heights(self):
        for prime in PRIMES:
            for length in (0, 1, 3, 12):
                for width in range(13):
                    matrix = [(1,) * width] * length
                    found = Space(prime, length, [units(length)[0]] if length else []).image(matrix, width)
                    self.assertEqual(found, Space(prime, width, [(1,) * width] * min(length, 1)))
                    self.same((found.prime, found.length), (prime, width))
                    self.assertEqual(Space.nothing(prime, length).image(matrix, width), Space(prime, width))

    def test_back(self):
        self.same(Space.nothing(5, 2).back([(1, 0), (0, 1), (1, 1)]).basis(), [(1, 1, 4)])
        self.same(Space.nothing(5, 2).back(matrix=([1, 0], [0, 1])).basis(), [])
        self.same(Space(5, 2, [(1, 1)]).back([(6, 0), (0, -4), (0, 0)]).basis(), [(1, 1, 0), (0, 0, 1)])
        self.same(Space(2, 1, [(1,)]).back([[1], [0]]).basis(), [(1, 0), (0, 1)])

    def test_back_with_each_height(self):
        for prime in PRIMES:
            for length in (0, 1, 3, 12):
                for height in range(13):
                    matrix = [(1,) * length] * height
                    whole, nothing = Space.whole(prime, length).back(matrix), Space.nothing(prime, length).back(matrix)
                    self.assertEqual(whole, Space.whole(prime, height))
                    self.same((whole.prime, whole.length), (prime, height))
                    self.assertEqual(len(nothing), height - 1 if height and length else height)

    def test_great_spaces(self):
        numbers = sequence(8)
        for prime in PRIMES:
            for rank, height, width in ((12, 12, 12), (5, 12, 12), (3, 12, 7), (6, 8, 12), (1, 12, 1)):
                matrix = low_rank(numbers, height, width, rank)
                one = Space(prime, height, low_rank(numbers, height, height, height // 2))
                image = one.image(matrix, width)
                expected = [lead(prime, row, matrix, width) for row in one.basis()]
                self.assertEqual(image, Space(prime, width, expected))
                self.is_reduced(image.basis(), prime, width)
                core = Space.nothing(prime, width).back(matrix)
                self.is_reduced(core.basis(), prime, height)
                self.assertEqual(len(core) + len(Space.whole(prime, height).image(matrix, width)), height)
                self.assertEqual(image.back(matrix), one + core)
                other = Space(prime, width, some_matrix(numbers, width // 2, width))
                below = other & Space.whole(prime, height).image(matrix, width)
                self.assertEqual(other.back(matrix).image(matrix, width), below)

    def test_arguments_stay(self):
        space = Space(5, 2, [(1, 2)])
        self.keeps_arguments(space.image, [[7, -1, 0], [1, 2, 3]], 3)
        self.keeps_arguments(space.back, [[7, -1], [1, 2], [0, 0]])
        self.same(space.basis(), [(1, 2)])


class Extensions(SpaceTest):

    def check(self, inner, outer):
        found = extension(inner, outer)
        self.assertIs(type(found), list)
        for vector in found:
            self.assertIs(type(vector), tuple)
            self.assertTrue(all(type(item) is int and 0 <= item < outer.prime for item in vector))
            self.assertIs(vector in outer, True)
        self.assertEqual(len(found), len(outer) - len(inner))
        self.assertEqual(Space(outer.prime, outer.length, inner.basis() + found), outer)

    def test_ordinary_and_edges(self):
        for prime in PRIMES:
            for length in (0, 1, 2, 5, 12):
                nothing, whole = Space.nothing(prime, length), Space.whole(prime, length)
                line = Space(prime, length, [(1,) * length])
                for outer in (nothing, line, whole):
                    self.check(nothing, outer)
                    self.check(outer, outer)
                    self.check(outer, whole)
                self.same(extension(whole, whole), [])
        self.same(extension(inner=Space(5, 1), outer=Space(5, 1)), [])

    def test_great_spaces(self):
        numbers = sequence(9)
        for prime in PRIMES:
            vectors = some_matrix(numbers, 11, 12)
            for few, many in ((0, 11), (1, 3), (4, 9), (10, 11)):
                self.check(Space(prime, 12, vectors[:few]), Space(prime, 12, vectors[:many]))
                self.check(Space(prime, 12, vectors[many - few:many]), Space(prime, 12, vectors[:many]))

    def test_not_within(self):
        line, plane = Space(5, 3, [(1, 2, 3)]), Space(5, 3, [(1, 0, 0), (0, 1, 0)])
        for inner, outer in ((line, plane), (plane, line), (line, Space(5, 3)), (Space.whole(5, 3), plane)):
            self.refuses_plainly(NotWithin, extension, inner, outer)


class Factors(RowTest):

    def check(self, prime, rows, vector, exist):
        found = self.keeps_arguments(factors_for, prime, rows, vector)
        if not exist:
            self.assertIsNone(found)
            return
        self.assertIs(type(found), list)
        self.assertEqual(len(found), len(rows))
        self.assertTrue(all(type(item) is int and 0 <= item < prime for item in found))
        self.assertEqual(lead(prime, found, rows, len(vector)), tuple(item % prime for item in vector))

    def test_ordinary(self):
        self.same(factors_for(5, [(1, 1), (0, 2)], (3, 2)), [3, 2])
        self.same(factors_for(prime=5, rows=([1, 1], [0, 2]), vector=[-2, GREAT * 5 + 2]), [3, 2])
        self.assertIsNone(factors_for(5, [(1, 1), (2, 2)], (3, 2)))
        self.check(5, [(1, 1), (2, 2), (0, 0)], (3, 3), True)
        self.check(5, [(0, 0), (5, 10)], (0, -5), True)
        self.check(5, [(0, 0), (5, 10)], (0, 1), False)

    def test_without_rows_and_without_items(self):
        self.same(factors_for(5, [], ()), [])
        self.same(factors_for(5, (), []), [])
        self.same(factors_for(5, [], (0, 5)), [])
        self.assertIsNone(factors_for(5, [], (0, 1)))
        for height in range(13):
            self.check(5, [()] * height, (), True)

    def test_great_lists(self):
        numbers = sequence(10)
        for prime in PRIMES:
            for rank in (0, 1, 6, 12):
                rows = low_rank(numbers, 12, 12, rank)
                space = Space(prime, 12, rows)
                for factors in some_matrix(numbers, 3, 12, -(10 ** 27), 10 ** 27):
                    self.check(prime, rows, lead(prime, factors, rows, 12), True)
                for vector in some_matrix(numbers, 5, 12, -(10 ** 29), 10 ** 29):
                    self.check(prime, rows, vector, vector in space)

    def test_a_returned_list_may_be_changed(self):
        rows = [(1, 1), (0, 2)]
        factors_for(5, rows, (3, 2)).append(7)
        self.same(factors_for(5, rows, (3, 2)), [3, 2])


class Inverses(SpaceTest):

    def check(self, prime, matrix):
        found = self.keeps_arguments(inverse_of, prime, matrix)
        self.assertIs(type(found), list)
        size = len(matrix)
        self.same(joined(prime, matrix, found, size), units(size))
        self.same(joined(prime, found, matrix, size), units(size))
        for row in found:
            self.assertIs(type(row), tuple)
            self.assertTrue(all(type(item) is int and 0 <= item < prime for item in row))

    def test_ordinary(self):
        self.same(inverse_of(5, [(1, 1), (0, 2)]), [(1, 2), (0, 3)])
        self.same(inverse_of(prime=5, matrix=([6, 1], [-5, GREAT * 5 + 2])), [(1, 2), (0, 3)])
        self.same(inverse_of(7, [[0, 1], [1, 0]]), [(0, 1), (1, 0)])
        self.assertIsNone(inverse_of(5, [(1, 2), (2, 4)]))
        self.assertIsNone(inverse_of(5, [(1, 2), (3, 1)]))
        self.same(inverse_of(7, [(1, 2), (3, 1)]), [(4, 6), (2, 4)])

    def test_each_size(self):
        for prime in PRIMES:
            for size in range(13):
                self.same(inverse_of(prime, units(size)), units(size))
                if size > 0:
                    self.assertIsNone(inverse_of(prime, [(0,) * size] * size))
                    self.assertIsNone(inverse_of(prime, units(size)[:-1] + [(prime,) * size]))
        self.same(inverse_of(2, []), [])
        self.same(inverse_of(2, ()), [])

    def test_great_matrices(self):
        numbers = sequence(11)
        for prime in PRIMES:
            for size in (3, 7, 12):
                for _ in range(4):
                    matrix = some_matrix(numbers, size, size, -(10 ** 29), 10 ** 29)
                    if len(Space(prime, size, matrix)) == size:
                        self.check(prime, matrix)
                    else:
                        self.assertIsNone(inverse_of(prime, matrix))
                lower = [
                    tuple(next(numbers) if at < row else int(at == row) for at in range(size)) for row in range(size)
                ]
                self.check(prime, lower[::-1])
                self.assertIsNone(inverse_of(prime, low_rank(numbers, size, size, size - 1)))

    def test_a_returned_list_may_be_changed(self):
        matrix = [[1, 1], [0, 2]]
        inverse_of(5, matrix).clear()
        self.same(inverse_of(5, matrix), [(1, 2), (0, 3)])


class Unchanged(RowTest):

    def test_a_returned_basis_may_be_changed(self):
        space = Space(5, 2, [(1, 2)])
        whole = Space.whole(5, 2)
        for found in (space.basis(), whole.basis(), extension(space, whole)):
            found.append((0, 1))
            found[0] = (3, 3)
        self.same((space.basis(), len(space), (0, 1) in space), ([(1, 2)], 1, False))
        self.same((whole.basis(), len(whole)), ([(1, 0), (0, 1)], 2))
        self.assertEqual(Space.whole(5, 2), whole)
        self.assertEqual(len(extension(space, whole)), 1)

    def test_each_basis_is_a_new_list(self):
        space = Space(5, 2, [(1, 2)])
        self.assertIsNot(space.basis(), space.basis())

    def test_nothing_changes_when_something_is_refused(self):
        space = Space(5, 2, [(1, 2)])
        self.refuses(InvalidMatrix, None, space.image, None, 2)
        self.refuses(InvalidMatrix, None, space.back, None)
        self.refuses(InvalidVector, None, space.rest, None)
        self.refuses_plainly(UnlikeSpaces, space.lies_in, Space(7, 2))
        self.same((space.prime, space.length, space.basis()), (5, 2, [(1, 2)]))

    def test_a_space_gives_equal_results_when_it_is_asked_again(self):
        space, other = Space(5, 3, [(1, 2, 3)]), Space(5, 3, [(0, 1, 0)])
        for _ in range(2):
            self.same(space.basis(), [(1, 2, 3)])
            self.same((space + other).basis(), [(1, 0, 3), (0, 1, 0)])
            self.same((space & other).basis(), [])
            self.same(space.rest((1, 1, 1)), (0, 4, 3))
            self.same(led(5, (1, 0, 0), units(3), 3), (1, 0, 0))


if __name__ == "__main__":
    unittest.main()
