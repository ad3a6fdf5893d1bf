"""Points 93 and 94: how many rows and carries there are, and which numbers."""

import itertools
import unittest

from helps import (
    GREAT, PRIMES, RowTest, all_bars, all_matrices, all_patterns, ends_of, sequence, some_numbers, wrong_numbers,
    wrong_patterns, wrong_primes, wrong_size_lists,
)
from maprows.alike import all_numbers, alike_count, is_carry, keepers, row_count
from maprows.errors import InvalidNumbers, InvalidPattern, InvalidPrime, InvalidSizes, TooLarge
from maprows.rows import Row, row_with
from maprows.threads import numbers

SMALL = (
    ("", 3, (2,)), ("", 2, (0,)), (">", 2, (2, 2)), ("<", 3, (1, 2)), (">", 3, (2, 0)), ("<", 2, (1, 3)),
    (">>", 2, (1, 2, 1)), ("<>", 2, (2, 1, 2)), ("><", 2, (1, 2, 2)), ("<<", 3, (1, 1, 1)), ("><>", 2, (1, 1, 1, 1)),
    ("<<>", 2, (1, 2, 1, 1)), (">><", 2, (0, 1, 1, 2)), ("><><", 2, (1, 1, 1, 1, 1)),
)


def values_of(k, counts):
    return [counts.get(bar, 0) for bar in all_bars(k)]


def counted_rows(pattern, prime, sizes):
    """How often the numbers of all rows with some sizes come up, as a dict from the lists of their values."""
    choices = []
    for index in range(len(pattern)):
        start, goal = ends_of(pattern, index)
        choices.append(all_matrices(prime, sizes[start], sizes[goal]))
    found = {}
    for maps in itertools.product(*choices):
        values = tuple(values_of(len(pattern), numbers(Row(pattern, prime, sizes, maps))))
        found[values] = found.get(values, 0) + 1
    return found


def numbers_with(k, sizes):
    """The lists of values of all numbers with which the places have these sizes, all lists tried; ascending."""
    bars = all_bars(k)
    found = []
    for values in itertools.product(*[range(min(sizes[a:b + 1]) + 1) for a, b in bars]):
        held = [sum(v for v, (a, b) in zip(values, bars) if a <= place <= b) for place in range(k + 1)]
        if held == list(sizes):
            found.append(list(values))
    return found


def changes(prime, size):
    """The number of the matrices of a size that have inverses."""
    count = 1
    for at in range(size):
        count *= prime ** size - prime ** at
    return count


class Counts(RowTest):

    def test_all_small_rows(self):
        for pattern, prime, sizes in SMALL:
            k = len(pattern)
            found = counted_rows(pattern, prime, sizes)
            self.same(row_count(pattern, prime, sizes), sum(found.values()))
            told = list(all_numbers(pattern, sizes))
            self.assertEqual([values_of(k, counts) for counts in told], [list(values) for values in sorted(found)])
            for counts in told:
                self.same(alike_count(pattern, prime, counts), found[tuple(values_of(k, counts))])

    def test_keepers_of_small_rows(self):
        for pattern, prime, sizes in SMALL:
            if prime ** sum(size * size for size in sizes) <= 5000:
                choices = list(itertools.product(*[all_matrices(prime, size, size) for size in sizes]))
                for counts in all_numbers(pattern, sizes):
                    row = row_with(pattern, prime, counts)
                    expected = sum(is_carry(row, row, list(told)) for told in choices)
                    self.same(keepers(pattern, prime, counts), expected)

    def test_rows_times_keepers_are_all_changes(self):
        values = sequence(121)
        for at in range(200):
            k = at % 7
            pattern = "".join("<>"[next(values) % 2] for _ in range(k))
            counts, prime = some_numbers(values, k), PRIMES[at % 6]
            expected = 1
            for size in row_with(pattern, prime, counts).sizes:
                expected *= changes(prime, size)
            self.same(alike_count(pattern, prime, counts) * keepers(pattern, prime, counts), expected)

    def test_counts_add_up(self):
        for pattern, sizes in (("><>", (2, 3, 1, 2)), (">>><", (1, 2, 2, 1, 1)), ("<<", (6, 5, 6)), ("<>", (4, 3, 4)),
                               ("><<>>", (1, 1, 2, 2, 1, 1)), ("", (6,)), ("<", (6, 6)), (">>>>>>", (1,) * 7)):
            for prime in (2, 13):
                total = sum(alike_count(pattern, prime, counts) for counts in all_numbers(pattern, sizes))
                self.same(total, row_count(pattern=pattern, prime=prime, sizes=list(sizes)))

    def test_bars_left_out_and_told(self):
        for call in (keepers, alike_count):
            for pattern in all_patterns(3):
                full = {bar: int(bar[0] == 0) for bar in all_bars(len(pattern))}
                short = {bar: number for bar, number in full.items() if number > 0}
                self.same(call(pattern, 3, short), call(pattern=pattern, prime=3, numbers=full))
                self.same(call(pattern, 3, {}), 1)
                self.keeps_arguments(call, pattern, 3, full)

    def test_great_numbers(self):
        sizes = [6] * 7
        self.same(row_count("><><><", 13, sizes), 13 ** 216)
        self.same(row_count("<" * 6, 2, [0, 6] * 3 + [0]), 1)
        # All rows whose maps all have inverses.
        self.same(alike_count("><><><", 13, {(0, 6): 6}), changes(13, 6) ** 6)
        self.same(keepers("><><><", 13, {(0, 6): 6}), changes(13, 6))
        self.same(alike_count("><><><", 13, {(p, p): 6 for p in range(7)}), 1)
        self.same(keepers("><><><", 13, {(p, p): 6 for p in range(7)}), changes(13, 6) ** 7)

    def test_matrices_of_each_rank(self):
        # The numbers of the matrices of a height of three and a width of two modulo 5, of the ranks 0, 1 and 2.
        counts = [1, (5 ** 3 - 1) * (5 ** 2 - 1) // 4, (5 ** 3 - 1) * (5 ** 3 - 5)]
        for rank, count in enumerate(counts):
            told = {(0, 1): rank, (0, 0): 3 - rank, (1, 1): 2 - rank}
            self.same(alike_count(">", 5, told), count)
            self.same(alike_count("<", 5, told), count)


class AllNumbers(RowTest):

    def test_all_small_sizes(self):
        for k in range(4):
            for sizes in itertools.product(range(3 if k < 3 else 2), repeat=k + 1):
                expected = numbers_with(k, sizes)
                for pattern in ("<" * k, "><>"[:k]):
                    told = list(all_numbers(pattern, sizes))
                    self.assertEqual([values_of(k, counts) for counts in told], expected)
        for sizes in ((3, 1, 2, 1), (2, 0, 3, 3), (1, 2, 2, 1)):
            self.assertEqual([values_of(3, counts) for counts in all_numbers("><<", sizes)], numbers_with(3, sizes))
        self.assertEqual([values_of(1, counts) for counts in all_numbers("<", (6, 4))], numbers_with(1, (6, 4)))

    def test_each_item_is_a_new_dict_with_all_bars(self):
        told = []
        for counts in all_numbers(pattern="><>", sizes=[1, 2, 2, 1]):
            self.same([type(counts), sorted(counts)], [dict, all_bars(3)])
            self.assertTrue(all(type(number) is int for number in counts.values()))
            told.append(dict(counts))
            counts.clear()
        self.assertEqual(told, list(all_numbers("><>", (1, 2, 2, 1))))
        self.assertEqual(len({repr(values_of(3, counts)) for counts in told}), len(told))

    def test_iterated_over_in_part(self):
        one, other = all_numbers(">" * 6, [6] * 7), all_numbers("<" * 6, [6] * 7)
        before = None
        for _ in range(300):
            counts = next(one)
            self.assertEqual(counts, next(other))
            values = values_of(6, counts)
            self.assertTrue(before is None or before < values)
            held = [sum(n for (a, b), n in counts.items() if a <= place <= b) for place in range(7)]
            self.assertEqual(held, [6] * 7)
            before = values
        first = next(all_numbers("><><><", [6] * 7))
        self.assertEqual({bar: number for bar, number in first.items() if number > 0}, {(0, 6): 6})

    def test_sizes_of_zero_and_one_place(self):
        self.assertEqual(list(all_numbers("", [4])), [{(0, 0): 4}])
        self.assertEqual(list(all_numbers("", (0,))), [{(0, 0): 0}])
        self.assertEqual(list(all_numbers("<>" * 3, (0,) * 7)), [{bar: 0 for bar in all_bars(6)}])
        self.assertEqual([n[0, 0] for n in all_numbers(">", (6, 6))], list(range(7)))


class Wrong(RowTest):

    def test_exceptions_in_their_order(self):
        for pattern in ("", ">", "<><"):
            k = len(pattern)
            for call in (keepers, alike_count):
                self.refuses_in_order(call, {"pattern": pattern, "prime": 3, "numbers": {(0, 0): 1}}, [
                    ("pattern", InvalidPattern, wrong_patterns()), ("prime", InvalidPrime, wrong_primes()),
                    ("numbers", InvalidNumbers, wrong_numbers(k)),
                ])
            self.refuses_in_order(row_count, {"pattern": pattern, "prime": 3, "sizes": [1] * (k + 1)}, [
                ("pattern", InvalidPattern, wrong_patterns()), ("prime", InvalidPrime, wrong_primes()),
                ("sizes", InvalidSizes, wrong_size_lists(k)),
            ])
            self.refuses_in_order(
                lambda pattern, sizes: list(all_numbers(pattern, sizes)), {"pattern": pattern, "sizes": [1] * (k + 1)},
                [("pattern", InvalidPattern, wrong_patterns()), ("sizes", InvalidSizes, wrong_size_lists(k))],
            )

    def test_numbers_that_make_a_place_too_large(self):
        for pattern, counts, first in (
            (">", {(0, 0): 1, (0, 1): 6}, 7), ("<", {(1, 1): 6, (0, 1): 2}, 8), ("<", {(0, 0): 6, (0, 1): 6}, 12),
            ("><", {(2, 2): 6, (1, 2): 6, (0, 2): 6}, 12), ("><", {(1, 1): 1, (2, 2): 6, (1, 2): 6, (0, 2): 1}, 8),
            ("<" * 6, {(at, 6): 6 for at in range(7)}, 12), ("<" * 6, {(at, 6): 1 for at in range(7)}, 7),
        ):
            for call in (keepers, alike_count):
                found = self.raised(call, pattern, 2, counts)
                self.assertIs(type(found), TooLarge)
                self.same(found.value, first)
                for wrong in wrong_primes():
                    self.refuses(InvalidPrime, wrong, call, pattern, wrong, counts)

    def test_wrong_numbers_come_ahead_of_large_ones(self):
        for number in (True, -1, 7, GREAT, None):
            counts = {(0, 0): 6, (0, 1): 6, (1, 1): number}
            self.refuses(InvalidNumbers, counts, keepers, ">", 5, counts)
            self.refuses(InvalidNumbers, counts, alike_count, ">", 5, counts)


if __name__ == "__main__":
    unittest.main()
