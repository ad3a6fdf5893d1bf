"""Points 90 to 92: rows that are the same but for coordinates, and bars that lead into one another."""

import itertools
import unittest

from helps import (
    GREAT, PRIMES, RowTest, all_bars, all_matrices, all_patterns, all_vectors, ends_of, in_other_coordinates, lead,
    sequence, some_numbers, some_row, some_rows, things, units, wrong_bars, wrong_matrices, wrong_patterns,
)
from maprows.alike import carry, is_carry, leads_into, parting_word
from maprows.errors import InvalidBar, InvalidPattern, UnlikeRows
from maprows.rows import Row, bar_row, row_with
from maprows.spaces import inverse_of
from maprows.threads import numbers
from maprows.words import Word, value


def all_rows(pattern, prime, sizes):
    choices = []
    for index in range(len(pattern)):
        start, goal = ends_of(pattern, index)
        choices.append(all_matrices(prime, sizes[start], sizes[goal]))
    return [Row(pattern, prime, sizes, maps) for maps in itertools.product(*choices)]


def leads_alike(one, other, told):
    """Whether matrices lead leading vectors along each arrow both ways to the same, each vector gone through."""
    for index in range(len(one.pattern)):
        start, goal = ends_of(one.pattern, index)
        size, prime = one.sizes[goal], one.prime
        for vector in units(one.sizes[start]):
            first = lead(prime, lead(prime, vector, one.matrix(index), size), told[goal], size)
            across = lead(prime, vector, told[start], one.sizes[start])
            if first != lead(prime, across, other.matrix(index), size):
                return False
    return True


def goes_back(prime, matrix):
    """Whether a matrix has an inverse: whether it leads no two vectors to the same."""
    size = len(matrix)
    return len({lead(prime, vector, matrix, size) for vector in all_vectors(prime, size)}) == prime ** size


def all_changes(row):
    """All lists of matrices with inverses, one for each place."""
    choices = [
        [matrix for matrix in all_matrices(row.prime, size, size) if goes_back(row.prime, matrix)] for size in row.sizes
    ]
    return list(itertools.product(*choices))


class Carry(RowTest):

    def is_right(self, one, other):
        told = carry(one, other)
        alike = numbers(one) == numbers(other)
        self.assertIs(told is not None, alike)
        if told is None:
            return False
        self.assertIs(type(told), list)
        self.assertEqual(len(told), len(one.sizes))
        for matrix, size in zip(told, one.sizes):
            self.same([type(matrix), len(matrix)], [list, size])
            for vector in matrix:
                self.same([type(vector), len(vector)], [tuple, size])
                self.assertTrue(all(type(item) is int and 0 <= item < one.prime for item in vector))
            self.assertIsNot(inverse_of(one.prime, matrix), None)
        self.assertTrue(leads_alike(one, other, told))
        self.assertIs(is_carry(one, other, told), True)
        self.same(carry(one, other), told)
        return True

    def test_all_pairs_of_small_rows(self):
        for pattern, prime, sizes in (("", 3, [2]), (">", 2, [1, 2]), ("<", 3, [1, 1]), ("<", 2, [2, 2]),
                                      ("><", 2, [1, 2, 1]), ("<>", 2, [1, 1, 1]), (">>", 2, [1, 2, 1])):
            rows = all_rows(pattern, prime, sizes)
            for one, other in itertools.product(rows, repeat=2):
                self.is_right(one, other)

    def test_rows_in_other_coordinates(self):
        values = sequence(111)
        for at in range(150):
            k = at % 7
            pattern = "".join("<>"[next(values) % 2] for _ in range(k))
            one = row_with(pattern, PRIMES[at % 6], some_numbers(values, k))
            other, third = in_other_coordinates(values, one), in_other_coordinates(values, one)
            for first, second in ((one, other), (other, third), (third, one), (one, one)):
                self.assertTrue(self.is_right(first, second))

    def test_many_rows(self):
        values = sequence(112)
        seen = {True: 0, False: 0}
        for one in some_rows(113, 200, 3, 2, (2, 3)):
            other = some_row(values, one.pattern, one.prime, one.sizes, 1 + next(values) % 2)
            seen[self.is_right(one, other)] += 1
        self.assertGreater(min(seen.values()), 40)

    def test_rows_with_other_sizes(self):
        for k in (0, 1, 4):
            for pattern in ("<" * k, ">" * k):
                one, other = bar_row(pattern, 3, (0, k)), bar_row(pattern, 3, (0, 0)) + bar_row(pattern, 3, (0, 0))
                self.assertIs(carry(one, other), None)
                self.assertIs(carry(other, one), None)

    def test_rows_of_sizes_zero_and_six(self):
        for pattern in all_patterns(3):
            k = len(pattern)
            row = Row(pattern, 5, [0] * (k + 1), [[]] * k)
            self.same(carry(row, row), [[]] * (k + 1))
            self.assertIs(is_carry(row, row, [[]] * (k + 1)), True)
            self.assertIs(is_carry(row, row, ((),) * (k + 1)), True)
            self.assertIs(is_carry(row, row, [[]] * k), False)
            self.assertIs(is_carry(row, row, [[()]] * (k + 1)), False)
        values = sequence(114)
        for pattern in all_patterns(6, 6)[::11]:
            one = some_row(values, pattern, 13, [6] * 7, 4)
            self.is_right(one, in_other_coordinates(values, one))

    def test_what_is_told_may_be_changed(self):
        one, other = Row(">", 5, (1, 2), [[(1, 2)]]), Row(">", 5, (1, 2), [[(0, 3)]])
        told = carry(one=one, other=other)
        before = repr(told)
        told[1].clear()
        told.pop()
        self.assertEqual(repr(carry(one, other)), before)
        self.same([one.text(), other.text()], ["5: 1 > 2; 1 2", "5: 1 > 2; 0 3"])


class IsCarry(RowTest):

    def test_all_lists_of_matrices(self):
        for pattern, prime, sizes in ((">", 2, [1, 2]), ("<", 2, [2, 1]), (">", 3, [1, 1]), ("><", 2, [1, 2, 1])):
            rows = all_rows(pattern, prime, sizes)
            choices = list(itertools.product(*[all_matrices(prime, size, size) for size in sizes]))
            changes = [list(told) for told in all_changes(rows[0])]
            for one, other in itertools.product(rows[::3], rows):
                found = [list(told) for told in choices if is_carry(one, other, list(told))]
                self.assertEqual(found, [told for told in changes if leads_alike(one, other, told)])
                self.assertIs(found == [], carry(one, other) is None)

    def test_changed_carries(self):
        values = sequence(115)
        seen = {True: 0, False: 0}
        for one in some_rows(116, 300, 4, 3, (2, 3, 5)):
            other = in_other_coordinates(values, one)
            told = carry(one, other)
            place = next(values) % len(told)
            size = one.sizes[place]
            told[place] = [
                [item + one.prime * (next(values) % 3) + (next(values) % 5 == 0) for item in row] for row in told[place]
            ]
            expected = inverse_of(one.prime, told[place]) is not None and leads_alike(one, other, told)
            self.assertIs(is_carry(one, other, told), expected)
            seen[expected] += size > 0
        self.assertGreater(min(seen.values()), 30)

    def test_lists_and_tuples_and_great_items(self):
        one, other = Row(">", 5, (1, 2), [[(1, 2)]]), Row(">", 5, (1, 2), [[(0, 3)]])
        for told in (
            [[(1,)], [(1, 1), (2, 1)]], (((1,),), ((1, 1), (2, 1))), [[[1]], ([1, 1], [2, 1])],
            [[(-4,)], [(-4, 6), (5 * 10 ** 28 + 2, -14)]], ([(GREAT + 2,)], [[GREAT + 2, 1], (2, 1)]),
        ):
            expected = leads_alike(one, other, told)
            self.assertIs(expected, True)
            self.assertIs(is_carry(one, other, told), True)
            self.assertIs(is_carry(one=one, other=other, told=told), True)
            self.keeps_arguments(is_carry, one, other, told)

    def test_what_is_no_carry(self):
        one, other = Row(">", 5, (1, 2), [[(1, 2)]]), Row(">", 5, (1, 2), [[(0, 3)]])
        good = carry(one, other)
        wrong = things() + [one.maps(), 0, 1, GREAT, [], (), good[:1], good + [[(1,)]], [good], good[::-1]]
        wrong += [{0: good[0], 1: good[1]}, [[(0,)], good[1]], [good[0], [(0, 0), (0, 0)]], [[(2,)], good[1]]]
        wrong += [[good[0], [(1, 0), (0, 1)]], [[(5,)], good[1]], [good[0], [(0, 3), (0, 1)]]]
        for matrix in wrong_matrices(1, 1):
            wrong.append([matrix, good[1]])
        for matrix in wrong_matrices(2, 2):
            wrong.append([good[0], matrix])
        for told in wrong:
            with self.subTest(told=told):
                self.assertIs(is_carry(one, other, told), False)
        self.assertIs(is_carry(one, other, good), True)

    def test_rows_with_other_sizes(self):
        one, other = row_with("><", 2, {(0, 0): 1}), row_with("><", 2, {(0, 0): 1, (2, 2): 1})
        for told in ([[(1,)], [], []], [[(1,)], [], [(1,)]], [[(1,)], [], [()]], [[(1,)], [], [(1, 0), (0, 1)]]):
            self.assertIs(is_carry(one, other, told), False)
            self.assertIs(is_carry(other, one, told), False)


class UnlikePairs(RowTest):

    def test_unlike_rows(self):
        row = Row(">", 5, [1, 1], [[(1,)]])
        for other in (Row("<", 5, [1, 1], [[(1,)]]), Row(">", 7, [1, 1], [[(1,)]]), Row("", 5, [1], []),
                      Row(">>", 5, [1, 1, 1], [[(1,)]] * 2), Row("<", 5, [0, 0], [[]])):
            for one, two in ((row, other), (other, row)):
                self.refuses_plainly(UnlikeRows, carry, one, two)
                self.refuses_plainly(UnlikeRows, parting_word, one, two)
                for told in things() + [[[(1,)], [(1,)]], []]:
                    self.refuses_plainly(UnlikeRows, is_carry, one, two, told)


class Parting(RowTest):

    def is_parted(self, one, other):
        word = parting_word(one, other)
        self.assertIs(word is None, numbers(one) == numbers(other))
        if word is not None:
            self.assertIs(type(word), Word)
            self.assertTrue(word.fits(one.pattern))
            self.assertNotEqual(len(value(word, one)), len(value(word, other)))
            self.same(parting_word(one, other).text(), word.text())
        return word is not None

    def test_all_pairs_of_small_rows(self):
        for pattern, prime, sizes in ((">", 2, [1, 2]), ("<", 2, [2, 2]), ("><", 2, [1, 2, 1]), ("<>", 2, [1, 2, 1]),
                                      (">>", 2, [1, 1, 1])):
            rows = all_rows(pattern, prime, sizes)
            for one, other in itertools.product(rows[::2], rows[::3]):
                self.is_parted(one, other)

    def test_rows_of_all_pairs_of_bars(self):
        for pattern in all_patterns(4):
            rows = [bar_row(pattern, 3, bar) for bar in all_bars(len(pattern))]
            for one, other in itertools.product(rows, repeat=2):
                self.assertIs(self.is_parted(one, other), one != other)

    def test_rows_with_unlike_sizes_and_with_the_same(self):
        values = sequence(117)
        seen = {True: 0, False: 0}
        for one in some_rows(118, 200, 6, 6):
            k = len(one.pattern)
            same, parts = in_other_coordinates(values, one), [next(values) % 7 for _ in range(k + 1)]
            self.assertFalse(self.is_parted(one, same))
            seen[self.is_parted(one, some_row(values, one.pattern, one.prime, one.sizes, next(values) % 4))] += 1
            self.assertIs(self.is_parted(one, some_row(values, one.pattern, one.prime, parts)) or
                          parts == list(one.sizes), True)
        self.assertGreater(min(seen.values()), 20)

    def test_rows_with_the_same_sizes_and_ranks(self):
        # Only the meet of two images, or the sum of two kernels, tells these rows apart.
        for pattern in ("><", "<>"):
            one, other = {(0, 2): 1, (1, 1): 1}, {(0, 1): 1, (1, 2): 1}
            self.assertTrue(self.is_parted(row_with(pattern, 7, one), row_with(pattern, 7, other)))
        self.assertIs(parting_word(one=bar_row("", 2, (0, 0)), other=bar_row("", 2, (0, 0))), None)


class LeadsInto(RowTest):

    def led(self, pattern, bar, other):
        """Whether matrices modulo 2 lead the row of a bar into that of another one, all of them tried."""
        one, two = bar_row(pattern, 2, bar), bar_row(pattern, 2, other)
        for told in itertools.product(*[all_matrices(2, a, b) for a, b in zip(one.sizes, two.sizes)]):
            if any(1 in vector for matrix in told for vector in matrix) and self.agree(one, two, told):
                return True
        return False

    def agree(self, one, two, told):
        for index in range(len(one.pattern)):
            start, goal = ends_of(one.pattern, index)
            for vector in units(one.sizes[start]):
                first = lead(2, lead(2, vector, one.matrix(index), one.sizes[goal]), told[goal], two.sizes[goal])
                across = lead(2, vector, told[start], two.sizes[start])
                if first != lead(2, across, two.matrix(index), two.sizes[goal]):
                    return False
        return True

    def test_all_pairs_of_bars(self):
        seen = {True: 0, False: 0}
        for pattern in all_patterns(4) + ["><<><", "<><><>"]:
            for bar, other in itertools.product(all_bars(len(pattern)), repeat=2):
                expected = self.led(pattern, bar, other)
                self.assertIs(leads_into(pattern, bar, other), expected, (pattern, bar, other))
                seen[expected] += 1
        self.assertGreater(min(seen.values()), 200)

    def test_names_of_the_arguments(self):
        self.assertIs(leads_into(pattern=">", bar=(0, 1), other=(0, 0)), True)
        self.assertIs(leads_into(pattern="<", bar=(0, 1), other=(0, 0)), False)
        self.assertIs(leads_into("", (0, 0), (0, 0)), True)

    def test_exceptions_in_their_order(self):
        for pattern in ("", ">", "<><", "<<<<<<"):
            k = len(pattern)
            self.refuses_in_order(leads_into, {"pattern": pattern, "bar": (0, k), "other": (k, k)}, [
                ("pattern", InvalidPattern, wrong_patterns()), ("bar", InvalidBar, wrong_bars(k)),
                ("other", InvalidBar, wrong_bars(k)),
            ])


if __name__ == "__main__":
    unittest.main()
