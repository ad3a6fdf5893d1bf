"""Points 6 and 43: the values of words in rows, all vectors gone through one by one."""

import itertools
import unittest

from helps import (
    PRIMES, RowTest, all_matrices, all_patterns, all_vectors, ends_of, lead, sequence, small_words, some_row, some_rows,
    some_word, span, things, units,
)
from maprows.errors import NotFitting
from maprows.rows import Row, bar_row
from maprows.spaces import Space
from maprows.words import Word, carried, value


def meaning(word, row):
    """The set of the vectors of the value of a word, straight from its definition."""
    everything = set(all_vectors(row.prime, row.sizes[word.place]))
    if word.sign in "01":
        return everything if word.sign == "1" else {(0,) * row.sizes[word.place]}
    told = [meaning(part, row) for part in word.parts]
    if word.sign == "&":
        return told[0] & told[1]
    if word.sign == "+":
        return {added(row.prime, one, other) for one in told[0] for other in told[1]}
    index = word.place - 1 if word.sign == "right" else word.place
    start, goal = ends_of(row.pattern, index)
    width = row.sizes[goal]
    if goal == word.place:
        return {lead(row.prime, vector, row.matrix(index), width) for vector in told[0]}
    return {vector for vector in everything if lead(row.prime, vector, row.matrix(index), width) in told[0]}


def added(prime, one, other):
    return tuple((item + more) % prime for item, more in zip(one, other))


def product(prime, one, other):
    return sum(item * more for item, more in zip(one, other)) % prime


class Values(RowTest):

    def is_meant(self, word, row):
        found = value(word, row)
        self.assertIs(type(found), Space)
        self.same([found.prime, found.length], [row.prime, row.sizes[word.place]])
        self.assertEqual(span(row.prime, found.length, found.basis()), meaning(word, row))

    def test_all_rows_of_one_arrow_and_small_sizes(self):
        words = [word for place in range(2) for word in small_words(place, 1, 3, 1) + small_words(place, 2, 1, 1)]
        for pattern in "<>":
            for sizes in itertools.product(range(3), repeat=2):
                height, width = sizes if pattern == ">" else sizes[::-1]
                for matrix in all_matrices(2, height, width):
                    row = Row(pattern, 2, sizes, [matrix])
                    for word in words:
                        self.is_meant(word, row)

    def test_many_rows_and_words(self):
        numbers = sequence(51)
        for row in some_rows(52, 250, 4, 3, (2, 3, 5)):
            if row.prime == 5 and max(row.sizes) > 2:
                row = row_of_sizes(numbers, row, 2)
            k = len(row.pattern)
            for leaves, steps in ((1, 1), (2, 3), (3, 2), (5, 6), (1, 8)):
                self.is_meant(some_word(numbers, next(numbers) % (k + 1), leaves, steps, k), row)

    def test_ground_words_and_both_directions(self):
        for prime in PRIMES:
            for arrow in "<>":
                row = Row(arrow, prime, [2, 2], [[(1, -1), (0, 0)]])
                for text in ("0@0", "1@0", "0@1", "1@1", "right(0@0)", "right(1@0)", "left(0@1)", "left(1@1)"):
                    self.is_meant(Word.read(text), row)

    def test_rows_of_sizes_zero_and_six(self):
        row = Row("><", 2, [6, 0, 1], [[()] * 6, [()]])
        for text in ("left(0@1)", "left(1@1)", "right(1@0)", "left(1@2)", "right(0@1)", "right(right(1@0))"):
            self.is_meant(Word.read(text), row)
        self.same(value(Word.read("left(0@1)"), row).basis(), units(6))
        row = Row("<>", 2, [0, 6, 0], [[()] * 6, [()] * 6])
        for text in ("right(0@0)", "left(0@2)", "right(0@0) & left(0@2)", "left(1@1)", "0@1"):
            self.is_meant(Word.read(text), row)

    def test_rows_of_all_bars(self):
        for pattern in all_patterns(3):
            k = len(pattern)
            words = [word for place in range(k + 1) for word in small_words(place, 1, 3, k)]
            words += [word for place in range(min(k, 1) + 1) for word in small_words(place, 2, 1, k)]
            for first in range(k + 1):
                for last in range(first, k + 1):
                    row = bar_row(pattern, 3, (first, last))
                    for word in words:
                        self.is_meant(word, row)


def row_of_sizes(numbers, row, most):
    return some_row(numbers, row.pattern, row.prime, [min(size, most) for size in row.sizes])


class Symmetries(RowTest):

    def some(self, seed, many):
        numbers = sequence(seed)
        for row in some_rows(seed + 1, many, 6, 6):
            k = len(row.pattern)
            for leaves, steps in ((1, 3), (4, 5), (9, 20), (24, 40)):
                yield some_word(numbers, next(numbers) % (k + 1), leaves, steps, k), row

    def test_turned(self):
        for word, row in self.some(53, 40):
            self.assertTrue(value(word, row) == value(word.turned(len(row.pattern)), row.turned()))

    def test_dual(self):
        for word, row in self.some(55, 40):
            one, other = value(word, row), value(word.dual(), row.dual())
            self.assertEqual(len(one) + len(other), row.sizes[word.place])
            for vector in one.basis():
                for more in other.basis():
                    self.assertEqual(product(row.prime, vector, more), 0)

    def test_beside(self):
        numbers = sequence(57)
        for at in range(60):
            prime, k = PRIMES[at % 6], at % 7
            pattern = "".join("<>"[next(numbers) % 2] for _ in range(k))
            one, other = [
                some_row(numbers, pattern, prime, [next(numbers) % 4 for _ in range(k + 1)], at % 3 + 1) for _ in "12"
            ]
            for leaves, steps in ((1, 2), (5, 9), (24, 40)):
                word = some_word(numbers, next(numbers) % (k + 1), leaves, steps, k)
                first, second = value(word, one), value(word, other)
                vectors = [vector + (0,) * second.length for vector in first.basis()]
                vectors += [(0,) * first.length + vector for vector in second.basis()]
                expected = Space(prime, first.length + second.length, vectors)
                self.assertTrue(value(word, one + other) == expected)


class Fitting(RowTest):

    def test_words_that_do_not_fit(self):
        row = Row("><", 5, [1, 1, 1], [[(1,)], [(1,)]])
        for text in ("1@3", "0@6", "left(1@3)", "left(left(left(0@3)))", "1@0 + left(left(1@2) + left(left(0@3)))"):
            word = Word.read(text)
            self.refuses(NotFitting, word, value, word, row)
            self.refuses(NotFitting, word, value, word=word, row=row)
            self.assertEqual(value(word, Row(">" * 6, 5, [1] * 7, [[(1,)]] * 6)).length, 1)

    def test_the_last_place(self):
        for k in range(7):
            row = Row("<" * k, 5, [1] * (k + 1), [[(1,)]] * k)
            for place in range(7):
                for word in (Word.whole(place), carried(Word.none(place), 0)):
                    if place <= k:
                        self.assertEqual(len(value(word, row)), int(word.sign == "1"))
                    else:
                        self.refuses(NotFitting, word, value, word, row)

    def test_what_is_no_word(self):
        row = Row("><", 5, [1, 1, 1], [[(1,)], [(1,)]])
        for thing in things():
            if not isinstance(thing, Word):
                self.refuses(NotFitting, thing, value, thing, row)

    def test_words_and_rows_stay_as_they_were(self):
        row = Row("><", 5, [1, 2, 1], [[(1, 1)], [(2, 2)]])
        word = Word.read("right(1@0) & left(1@2)")
        found = value(word=word, row=row)
        found.basis().clear()
        self.assertTrue(value(word, row) == found == Space(5, 2, [(1, 1)]))
        self.same([word.text(), row.text()], ["right(1@0) & left(1@2)", "5: 1 > 2 < 1; 1 1; 2 2"])

    def test_deep_words(self):
        row = Row("<>", 7, [2, 3, 1], [[(1, 2), (0, 1), (3, 3)], [(1,), (2,), (3,)]])
        word = Word.whole(1)
        for _ in range(400):
            word = (word.left().right() & Word.whole(1)).right().left()
        self.assertEqual(len(value(word, row)), 3)
        self.assertTrue(value(word.dual(), row.dual()) == Space.nothing(7, 3))


if __name__ == "__main__":
    unittest.main()
