"""Points 100 to 102: rows with one more map."""

import itertools
import unittest

from helps import (
    GREAT, PRIMES, RowTest, all_bars, all_matrices, all_patterns, in_other_coordinates, sequence, some_matrix,
    some_numbers, some_row, wrong_arrows, wrong_matrices, wrong_numbers, wrong_patterns, wrong_place_sizes,
    wrong_primes,
)
from maprows.alike import all_numbers
from maprows.errors import (
    InvalidArrow, InvalidMatrix, InvalidNumbers, InvalidPattern, InvalidPrime, InvalidSize, TooLarge,
)
from maprows.growing import grown, numbers_after, ways_after
from maprows.rows import Row, bar_row, row_with
from maprows.threads import numbers


def values_of(k, counts):
    return [counts.get(bar, 0) for bar in all_bars(k)]


def new_matrices(row, arrow, size):
    last = row.sizes[-1]
    return all_matrices(row.prime, *((last, size) if arrow == ">" else (size, last)))


class Grown(RowTest):

    def test_many_rows(self):
        values = sequence(131)
        for at in range(120):
            k = at % 6
            pattern = "".join("<>"[next(values) % 2] for _ in range(k))
            row = some_row(values, pattern, PRIMES[at % 6], [next(values) % 7 for _ in range(k + 1)], 3)
            arrow, size, last = "<>"[next(values) % 2], next(values) % 7, row.sizes[-1]
            height, width = (last, size) if arrow == ">" else (size, last)
            matrix = some_matrix(values, height, width, -40, 40)
            text, before = row.text(), repr(matrix)
            found = grown(row, arrow, size, matrix)
            self.assertIs(type(found), Row)
            self.same([found.pattern, found.prime, found.sizes], [pattern + arrow, row.prime, row.sizes + (size,)])
            self.assertTrue(found == Row(pattern + arrow, row.prime, row.sizes + (size,), row.maps() + [matrix]))
            self.assertTrue(found.part(0, k) == row)
            self.same(found.matrix(k), [tuple(item % row.prime for item in vector) for vector in matrix])
            self.assertTrue(grown(row=row, arrow=arrow, size=size, matrix=tuple(matrix)) == found)
            self.same([row.text(), repr(matrix)], [text, before])

    def test_what_was_handed_in_may_be_changed(self):
        row, matrix = Row("", 5, [2], []), [[1], [2]]
        found = grown(row, ">", 1, matrix)
        matrix[0][0] = 4
        matrix.clear()
        self.same([found.text(), row.text()], ["5: 2 > 1; 1, 2", "5: 2"])

    def test_sizes_of_zero_and_six(self):
        row = Row("", 13, [0], [])
        self.same(grown(row, ">", 0, []).text(), "13: 0 > 0; -")
        self.same(grown(row, ">", 6, []).text(), "13: 0 > 6; -")
        self.same(grown(row, "<", 6, [()] * 6).text(), "13: 0 < 6; -")
        six = grown(row, "<", 6, ((),) * 6)
        self.same(grown(six, "<", 0, []).text(), "13: 0 < 6 < 0; -; -")
        self.same(len(grown(six, ">", 6, [(1,) * 6] * 6).matrix(1)), 6)

    def test_exceptions_in_their_order(self):
        for pattern, sizes in (("", [2]), ("<", [1, 3]), ("><>><", [1] * 6)):
            row = bar_row(pattern, 3, (0, 0)) + row_with(pattern, 3, {(p, p): 1 for p in range(len(pattern) + 1)})
            last = row.sizes[-1]
            for arrow in "<>":
                height, width = (last, 3) if arrow == ">" else (3, last)
                good = {"arrow": arrow, "size": 3, "matrix": [(1,) * width] * height}
                self.refuses_in_order(lambda arrow, size, matrix: grown(row, arrow, size, matrix), good, [
                    ("arrow", InvalidArrow, wrong_arrows()), ("size", InvalidSize, wrong_place_sizes()),
                    ("matrix", InvalidMatrix, wrong_matrices(height, width)),
                ])

    def test_rows_with_six_arrows(self):
        row = bar_row("><" * 3, 3, (6, 6))
        text = row.text()
        for arrow in "<>":
            for size, matrix in [(1, [(1,)]), (0, []), (7, [(1,)]), (None, None), (True, "1"), (1, None)]:
                found = self.raised(grown, row, arrow, size, matrix)
                self.assertIs(type(found), TooLarge)
                self.same(found.value, 7)
        for arrow in wrong_arrows():
            self.refuses(InvalidArrow, arrow, grown, row, arrow, 1, [(1,)])
            self.refuses(InvalidArrow, arrow, grown, row, arrow=arrow, size=None, matrix=None)
        self.assertEqual(row.text(), text)


class After(RowTest):

    def comes_to(self, row, arrow, size):
        """How often the numbers of rows with one more arrow come up, all matrices tried; by the lists of values."""
        found, k = {}, len(row.pattern)
        for matrix in new_matrices(row, arrow, size):
            values = tuple(values_of(k + 1, numbers(grown(row, arrow, size, matrix))))
            found[values] = found.get(values, 0) + 1
        return found

    def is_right(self, row, arrow, size):
        k, pattern, prime = len(row.pattern), row.pattern, row.prime
        counts = numbers(row)
        found = self.comes_to(row, arrow, size)
        told = list(numbers_after(pattern, counts, arrow, size))
        self.assertEqual([values_of(k + 1, after) for after in told], [list(values) for values in sorted(found)])
        for after in told:
            self.same(ways_after(pattern, prime, counts, arrow, after), found[tuple(values_of(k + 1, after))])
        return found

    def test_all_matrices_behind_small_rows(self):
        values = sequence(132)
        tried = 0
        for pattern in all_patterns(3):
            k = len(pattern)
            for at in range(8):
                counts = some_numbers(values, k, 2 if k < 3 else 3)
                prime = 2 if at % 4 else 3
                row = in_other_coordinates(values, row_with(pattern, prime, counts))
                size = next(values) % 4
                if prime ** (size * row.sizes[-1]) <= 700:
                    for arrow in "<>":
                        found = self.is_right(row, arrow, size)
                        other = in_other_coordinates(values, row_with(pattern, prime, counts))
                        self.assertEqual(self.comes_to(other, arrow, size), found)
                        tried += len(found) > 2
        self.assertGreater(tried, 60)

    def test_rows_with_many_births(self):
        for pattern, counts in (
            ("><", {(0, 2): 1, (1, 2): 1, (2, 2): 1}), ("<>", {(0, 2): 1, (1, 2): 1, (2, 2): 1}),
            ("<<", {(0, 2): 1, (1, 2): 1, (2, 2): 1}), (">>", {(0, 2): 1, (1, 2): 1, (2, 2): 1}),
            ("><><", {(0, 4): 1, (2, 4): 1, (3, 4): 1, (1, 2): 1}), ("<", {(0, 1): 2, (1, 1): 1}),
            ("<<>>", {(1, 4): 1, (3, 4): 2}), (">", {(0, 1): 1, (1, 1): 2}), ("", {(0, 0): 3}),
        ):
            row = row_with(pattern, 2, counts)
            for arrow in "<>":
                for size in range(4):
                    self.is_right(row, arrow, size)
            self.is_right(row_with(pattern, 5, counts), "<", 1)
            self.is_right(row_with(pattern, 5, counts), ">", 1)

    def test_ways_add_up_to_all_matrices(self):
        values = sequence(133)
        for at in range(150):
            k = at % 6
            pattern = "".join("<>"[next(values) % 2] for _ in range(k))
            counts, prime, arrow, size = some_numbers(values, k), PRIMES[at % 6], "<>"[at % 2], next(values) % 7
            last = row_with(pattern, prime, counts).sizes[-1]
            told = list(numbers_after(pattern=pattern, numbers=counts, arrow=arrow, size=size))
            ways = [ways_after(pattern, prime, counts, arrow, after) for after in told]
            self.assertTrue(all(type(number) is int and number > 0 for number in ways))
            self.same(sum(ways), prime ** (size * last))
            lists = [values_of(k + 1, after) for after in told]
            self.assertEqual(lists, sorted(lists))
            self.assertEqual(len({tuple(item) for item in lists}), len(lists))

    def test_some_matrices_come_to_what_is_told(self):
        values = sequence(134)
        for at in range(80):
            k = at % 6
            pattern = "".join("<>"[next(values) % 2] for _ in range(k))
            row = some_row(values, pattern, PRIMES[at % 6], [next(values) % 7 for _ in range(k + 1)], at % 4 + 1)
            arrow, size, last = "<>"[at % 2], next(values) % 7, row.sizes[-1]
            height, width = (last, size) if arrow == ">" else (size, last)
            told = [values_of(k + 1, after) for after in numbers_after(pattern, numbers(row), arrow, size)]
            for low in (0, -2):
                after = numbers(grown(row, arrow, size, some_matrix(values, height, width, low, 1)))
                self.assertIn(values_of(k + 1, after), told)
                ways = ways_after(
                    pattern=pattern, prime=row.prime, numbers=numbers(row), arrow=arrow, after=after)
                self.assertGreater(ways, 0)

    def test_numbers_that_cannot_come_out(self):
        for pattern, counts, size in ((">", {(0, 1): 1, (1, 1): 1, (0, 0): 1}, 2), ("<", {(0, 1): 1}, 1), ("", {}, 1),
                                      ("><", {(0, 2): 1, (1, 1): 1}, 1)):
            k = len(pattern)
            for arrow in "<>":
                found = {tuple(values) for values in self.comes_to(row_with(pattern, 2, counts), arrow, size)}
                seen = 0
                sizes = row_with(pattern, 2, counts).sizes
                for other in itertools.product(*[(held, held + 1) for held in sizes]):
                    for after in all_numbers(pattern + arrow, other + (size,)):
                        ways = ways_after(pattern, 2, counts, arrow, after)
                        self.assertIs(type(ways), int)
                        self.assertIs(ways > 0, tuple(values_of(k + 1, after)) in found)
                        seen += ways == 0
                self.assertGreater(seen, 1)
        self.same(ways_after(">", 3, {(0, 1): 1}, ">", {}), 0)
        self.same(ways_after(">", 3, {}, ">", {(0, 1): 1}), 0)
        self.same(ways_after(">", 3, {(0, 0): 1}, ">", {(0, 0): 2}), 0)
        self.same(ways_after(">", 3, {(0, 1): 6}, ">", {(0, 1): 3, (0, 2): 2, (2, 2): 4}), 0)
        self.same(ways_after(">", 3, {(0, 1): 2}, "<", {(0, 2): 1, (1, 1): 1}), 0)

    def test_bars_left_out(self):
        self.same(ways_after("", 2, {}, "<", {}), 1)
        self.same(ways_after("", 2, {(0, 0): 0}, "<", {(1, 1): 3}), 1)
        full = {bar: 0 for bar in all_bars(2)}
        self.same(ways_after("<", 7, {(0, 1): 2}, ">", {(0, 2): 2}),
                  ways_after("<", 7, {(0, 1): 2, (0, 0): 0, (1, 1): 0}, ">", {**full, (0, 2): 2}))
        self.same(ways_after("<", 7, {(0, 1): 2}, ">", {(0, 2): 2}), (49 - 1) * (49 - 7))
        self.keeps_arguments(ways_after, "<", 7, {(0, 1): 2}, ">", {(0, 2): 2})

    def test_each_item_is_a_new_dict_with_all_bars(self):
        counts = {(0, 1): 2, (1, 1): 2}
        told = []
        for after in numbers_after(">", counts, "<", 3):
            self.same([type(after), sorted(after)], [dict, all_bars(2)])
            self.assertTrue(all(type(number) is int and 0 <= number <= 6 for number in after.values()))
            told.append(dict(after))
            after.clear()
        self.assertEqual(told, list(numbers_after(">", counts, "<", 3)))
        self.assertEqual(counts, {(0, 1): 2, (1, 1): 2})

    def test_great_rows_and_parts_of_generators(self):
        pattern = "><>><"
        counts = {(birth, 5): 1 for birth in range(6)}
        for arrow in "<>":
            told = list(numbers_after(pattern, counts, arrow, 6))
            self.assertEqual(len(told), 64)
            some = numbers_after(pattern, counts, arrow, 6)
            self.assertEqual([next(some), next(some)], told[:2])
            self.assertEqual(len(list(numbers_after(pattern, counts, arrow, 0))), 1)
            self.assertEqual(sum(ways_after(pattern, 13, counts, arrow, after) for after in told), 13 ** 36)
        self.assertEqual(len(list(numbers_after("", {(0, 0): 6}, ">", 6))), 7)
        self.assertEqual(list(numbers_after("", {}, ">", 0)), [{bar: 0 for bar in all_bars(1)}])


class Wrong(RowTest):

    def test_numbers_after_in_order(self):
        for pattern in ("", ">", "<><"):
            good = {"pattern": pattern, "numbers": {(0, 0): 1}, "arrow": ">", "size": 2}
            self.refuses_in_order(lambda **named: list(numbers_after(**named)), good, [
                ("pattern", InvalidPattern, wrong_patterns()),
                ("numbers", InvalidNumbers, wrong_numbers(len(pattern))),
                ("arrow", InvalidArrow, wrong_arrows()), ("size", InvalidSize, wrong_place_sizes()),
            ])

    def test_ways_after_in_order(self):
        for pattern in ("", ">", "<><"):
            good = {"pattern": pattern, "prime": 3, "numbers": {(0, 0): 1}, "arrow": "<", "after": {(0, 0): 1}}
            self.refuses_in_order(ways_after, good, [
                ("pattern", InvalidPattern, wrong_patterns()), ("prime", InvalidPrime, wrong_primes()),
                ("numbers", InvalidNumbers, wrong_numbers(len(pattern))), ("arrow", InvalidArrow, wrong_arrows()),
                ("after", InvalidNumbers, wrong_numbers(len(pattern) + 1)),
            ])

    def test_large_numbers_come_ahead_of_arrows(self):
        counts = {(0, 0): 2, (0, 1): 6, (1, 1): 5}
        for arrow in wrong_arrows() + ["<", ">"]:
            for size in (1, None, 7):
                self.too_large(8, lambda: list(numbers_after("<", counts, arrow, size)))
            self.too_large(8, ways_after, "<", 2, counts, arrow, {})
            self.too_large(8, ways_after, "<", 2, counts, arrow, None)
        for wrong in wrong_primes():
            self.refuses(InvalidPrime, wrong, ways_after, "<", wrong, counts, ">", {})

    def test_patterns_with_six_arrows(self):
        pattern = "<><><>"
        for arrow in "<>":
            for size in (1, None, 7):
                self.too_large(7, lambda: list(numbers_after(pattern, {}, arrow, size)))
            for after in ({}, None, {(0, 7): 1}):
                self.too_large(7, ways_after, pattern, 5, {}, arrow, after)
        for arrow in wrong_arrows():
            self.refuses(InvalidArrow, arrow, ways_after, pattern, 5, {}, arrow, {})
            self.refuses(InvalidArrow, arrow, lambda: list(numbers_after(pattern, {}, arrow, 1)))
        for wrong in wrong_numbers(6):
            self.refuses(InvalidNumbers, wrong, ways_after, pattern, 5, wrong, ">", {})
        self.too_large(7, ways_after, pattern, 5, {(0, 0): 1, (0, 6): 6}, "?", {})
        self.too_large(12, ways_after, pattern, 5, {(0, 0): 6, (0, 6): 6}, "?", {})

    def test_numbers_behind_the_arrow_that_are_too_large(self):
        self.too_large(9, ways_after, "<", 2, {(0, 0): 1}, ">", {(0, 0): 6, (0, 2): 3, (2, 2): 6})
        self.too_large(7, ways_after, "<", 2, {(0, 0): 1}, ">", {(0, 0): 6, (2, 2): 6, (1, 2): 1})
        for number in (True, -1, 7, GREAT, None):
            after = {(0, 0): 6, (0, 2): 6, (2, 2): number}
            self.refuses(InvalidNumbers, after, ways_after, "<", 2, {}, ">", after)
        after = {(0, 3): 1}
        self.refuses(InvalidNumbers, after, ways_after, "<", 2, {}, ">", after)

    def too_large(self, size, call, *args):
        found = self.raised(call, *args)
        self.assertIs(type(found), TooLarge)
        self.same(found.value, size)


if __name__ == "__main__":
    unittest.main()
