"""Points 10 to 12 and 30 to 34 on wrong inputs: which exception is due first, and what it keeps."""

import unittest

from helps import (
    GREAT, RowTest, things, wrong_bars, wrong_matrices, wrong_numbers, wrong_patterns, wrong_places, wrong_primes,
    wrong_size_lists,
)
from maprows.errors import (
    InvalidBar, InvalidMaps, InvalidMatrix, InvalidNumbers, InvalidPattern, InvalidPlace, InvalidPrime, InvalidSizes,
    TooLarge, UnlikeRows,
)
from maprows.rows import Row, bar_row, bars, row_with


def wrong_maps(k):
    """What is no list with an item for each of k arrows."""
    wrong = things() + [0, 1, GREAT, "1" * k, {at: [(1,)] for at in range(k)}]
    wrong += [[[(1,)]] * other for other in (0, 1, 2, 3, 5, 6, 7) if other != k]
    return wrong + [([(1,)],) * (k + 1), [None] * 20]


class Patterns(RowTest):

    def test_bars(self):
        self.refuses_in_order(bars, {"pattern": "><"}, [("pattern", InvalidPattern, wrong_patterns())])


class Making(RowTest):

    def test_exceptions_in_their_order(self):
        for pattern in ("", ">", "><>"):
            k = len(pattern)
            good = {"pattern": pattern, "prime": 5, "sizes": [1] * (k + 1), "maps": [[(1,)]] * k}
            self.refuses_in_order(Row, good, [
                ("pattern", InvalidPattern, wrong_patterns()),
                ("prime", InvalidPrime, wrong_primes()),
                ("sizes", InvalidSizes, wrong_size_lists(k)),
                ("maps", InvalidMaps, wrong_maps(k)),
            ])

    def test_matrices_come_last(self):
        maps = [[(1,)], None]
        for pattern in wrong_patterns():
            self.refuses(InvalidPattern, pattern, Row, pattern, 5, [1, 1, 1], maps)
        for prime in wrong_primes():
            self.refuses(InvalidPrime, prime, Row, "><", prime, [1, 1, 1], maps)
        for sizes in wrong_size_lists(2):
            self.refuses(InvalidSizes, sizes, Row, "><", 5, sizes, maps)
        maps = [None, [(1,)], [(1,)]]
        self.refuses(InvalidMaps, maps, Row, "><", 5, [1, 1, 1], maps)

    def test_the_first_wrong_matrix_is_kept(self):
        for pattern, sizes, height, width in (
            (">><", [1, 2, 3, 1], 2, 3), ("><<", [1, 3, 2, 0], 2, 3), (">>>", [2, 1, 0, 0], 1, 0),
            ("<<>", [0, 1, 0, 2], 0, 1), ("<>>", [2, 0, 0, 1], 0, 0), ("<<<", [0, 6, 6, 6], 6, 6),
        ):
            right = [
                [(1,) * (sizes[index + 1] if arrow == ">" else sizes[index])] *
                (sizes[index] if arrow == ">" else sizes[index + 1]) for index, arrow in enumerate(pattern)
            ]
            Row(pattern, 7, sizes, right)
            for wrong in wrong_matrices(height, width):
                with self.subTest(pattern=pattern, sizes=sizes, wrong=wrong):
                    self.refuses(InvalidMatrix, wrong, Row, pattern, 7, sizes, [right[0], wrong, right[2]])
                    self.refuses(InvalidMatrix, wrong, Row, pattern, 7, sizes, (right[0], wrong, [[None]]))

    def test_heights_and_widths_the_other_way_round(self):
        matrix = [(1, 2)]
        self.refuses(InvalidMatrix, matrix, Row, "<", 5, [1, 2], [matrix])
        self.refuses(InvalidMatrix, matrix, Row, ">", 5, [2, 1], [matrix])
        matrix = []
        self.refuses(InvalidMatrix, matrix, Row, ">", 5, [1, 0], [matrix])
        self.refuses(InvalidMatrix, matrix, Row, "<", 5, [0, 1], [matrix])

    def test_a_bad_row_is_not_made_from_six_arrows_and_more(self):
        sizes, maps = [1] * 8, [[(1,)]] * 7
        self.refuses(InvalidPattern, ">>>>>>>", Row, ">>>>>>>", 5, sizes, maps)
        self.refuses(InvalidSizes, sizes, Row, ">>>>>>", 5, sizes, maps)
        self.refuses(InvalidMaps, maps, Row, ">>>>>>", 5, sizes[:7], maps)

    def test_sizes_up_to_six(self):
        for sizes in ([7], (7,), [-1], [True], [GREAT]):
            self.refuses(InvalidSizes, sizes, Row, "", 5, sizes, [])
        self.assertEqual(Row("", 5, [6], []).sizes, (6,))

    def test_numbers_of_arrows(self):
        for k in (0, 1, 3, 6):
            row = Row("<" * k, 5, [1] * (k + 1), [[(1,)]] * k)
            for index in wrong_places(0, k - 1):
                with self.subTest(k=k, index=index):
                    self.refuses(InvalidPlace, index, row.matrix, index)
                    self.refuses(InvalidPlace, index, row.matrix, index=index)


class Beside(RowTest):

    def test_unlike_rows(self):
        one = Row(">", 5, [6, 1], [[(1,)] * 6])
        for other in (Row("<", 5, [6, 1], [[(1,) * 6]]), Row(">", 7, [6, 1], [[(1,)] * 6]), Row("", 5, [6], []),
                      Row(">>", 5, [6, 1, 1], [[(1,)] * 6, [(1,)]])):
            self.refuses_plainly(UnlikeRows, lambda: one + other)
            self.refuses_plainly(UnlikeRows, lambda: other + one)

    def test_too_large(self):
        for sizes, more, first in (
            ([6, 1, 1], [1, 0, 0], 7), ([3, 6, 6], [3, 6, 1], 12), ([0, 0, 4], [6, 6, 4], 8), ([6, 6, 6], [0, 0, 1], 7),
        ):
            one = Row("><", 3, sizes, [[(1,) * sizes[1]] * sizes[0], [(1,) * sizes[1]] * sizes[2]])
            other = Row("><", 3, more, [[(2,) * more[1]] * more[0], [(2,) * more[1]] * more[2]])
            texts = [one.text(), other.text()]
            self.assertEqual(self.raised_with(lambda: one + other), first)
            self.assertEqual(self.raised_with(lambda: other + one), first)
            self.assertEqual([one.text(), other.text()], texts)

    def raised_with(self, call):
        found = self.raised(call)
        self.assertIs(type(found), TooLarge)
        return found.value


class Parts(RowTest):

    def test_places(self):
        for k in (0, 1, 3, 6):
            row = Row("<" * k, 5, [1] * (k + 1), [[(1,)]] * k)
            for first in wrong_places(0, k):
                with self.subTest(k=k, first=first):
                    self.refuses(InvalidPlace, first, row.part, first, k)
                    for last in things() + [-1, k + 1, GREAT]:
                        self.refuses(InvalidPlace, first, row.part, first=first, last=last)
            for first in range(k + 1):
                for last in wrong_places(first, k):
                    with self.subTest(k=k, first=first, last=last):
                        self.refuses(InvalidPlace, last, row.part, first, last)


class BarsAsRows(RowTest):

    def test_row_of_a_bar(self):
        for pattern in ("", ">", "<><"):
            self.refuses_in_order(bar_row, {"pattern": pattern, "prime": 3, "bar": (0, len(pattern))}, [
                ("pattern", InvalidPattern, wrong_patterns()),
                ("prime", InvalidPrime, wrong_primes()),
                ("bar", InvalidBar, wrong_bars(len(pattern))),
            ])

    def test_row_with_numbers(self):
        for pattern in ("", ">", "<><"):
            self.refuses_in_order(row_with, {"pattern": pattern, "prime": 3, "numbers": {(0, 0): 1}}, [
                ("pattern", InvalidPattern, wrong_patterns()),
                ("prime", InvalidPrime, wrong_primes()),
                ("numbers", InvalidNumbers, wrong_numbers(len(pattern))),
            ])

    def test_numbers_that_make_a_place_too_large(self):
        for pattern, numbers, first in (
            (">", {(0, 0): 1, (0, 1): 6}, 7), (">", {(1, 1): 6, (0, 1): 2}, 8), ("<", {(0, 0): 6, (0, 1): 6}, 12),
            ("><", {(2, 2): 6, (1, 2): 6, (0, 2): 6}, 12), ("><", {(1, 1): 1, (2, 2): 6, (1, 2): 6, (0, 2): 1}, 8),
            ("<<<<<<", {(at, 6): 6 for at in range(7)}, 12), ("<<<<<<", {(at, 6): 1 for at in range(7)}, 7),
        ):
            found = self.raised(row_with, pattern, 2, numbers)
            self.assertIs(type(found), TooLarge)
            self.same(found.value, first)

    def test_wrong_numbers_come_ahead_of_large_ones(self):
        for wrong in wrong_numbers(1):
            if isinstance(wrong, dict) and (0, 0) not in wrong and (0, 1) not in wrong:
                numbers = {(0, 0): 6, (0, 1): 6, **wrong}
                self.refuses(InvalidNumbers, numbers, row_with, ">", 5, numbers)


if __name__ == "__main__":
    unittest.main()
