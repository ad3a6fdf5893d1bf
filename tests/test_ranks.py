"""Points 80 to 82: tables of ranks."""

import itertools
import unittest

from helps import (
    GREAT, PRIMES, RowTest, all_bars, all_matrices, all_patterns, all_vectors, ends_of, in_other_coordinates, lead,
    sequence, some_numbers, some_row, things, wrong_primes,
)
from maprows.errors import InvalidPrime, InvalidTable, NegativeBar, NotOneWay
from maprows.ranks import bars_of, clash, is_rank_table, rank_table, row_of_table
from maprows.rows import Row, bar_row, row_with
from maprows.threads import numbers


def rank_between(row, start, goal):
    """The rank between two places, straight from the definition: all vectors gone through one by one."""
    indexes = range(start, goal)
    if "<" in row.pattern:
        start, indexes = goal, reversed(indexes)
    vectors = set(all_vectors(row.prime, row.sizes[start]))
    for index in indexes:
        width = row.sizes[ends_of(row.pattern, index)[1]]
        vectors = {lead(row.prime, vector, row.matrix(index), width) for vector in vectors}
    # A space of this dimension has so many vectors.
    return [row.prime ** dimension for dimension in range(7)].index(len(vectors))


def table_of(k, counts):
    """The rank table of the rows with some numbers: how many bars hold both places."""
    return [
        [sum(number for (a, b), number in counts.items() if a <= i and j <= b) for j in range(i, k + 1)]
        for i in range(k + 1)
    ]


def number_by(table, a, b):
    """The number of a bar by a table, as the document tells it."""
    def at(i, j):
        return 0 if i == -1 or j == len(table) else table[i][j - i]
    return at(a, b) - at(a - 1, b) - at(a, b + 1) + at(a - 1, b + 1)


def all_tables(sizes, most):
    """All tables with some sizes and ranks of at most `most`."""
    n = len(sizes)
    ranks = itertools.product(range(most + 1), repeat=n * (n - 1) // 2)
    for values in ranks:
        left = iter(values)
        yield [[size] + [next(left) for _ in range(n - 1 - i)] for i, size in enumerate(sizes)]


class Tables(RowTest):

    def test_small_rows_by_all_vectors(self):
        values = sequence(101)
        for at in range(150):
            k = at % 5
            row = some_row(values, "<>"[at % 2] * k, (2, 3)[at % 2], [next(values) % 4 for _ in range(k + 1)], at % 4)
            found = rank_table(row)
            self.same(found, [[rank_between(row, i, j) for j in range(i, k + 1)] for i in range(k + 1)])

    def test_rows_of_numbers_in_other_coordinates(self):
        values = sequence(102)
        for at in range(80):
            k = at % 7
            counts = some_numbers(values, k)
            row = in_other_coordinates(values, row_with("<>"[at % 2] * k, PRIMES[at % 6], counts))
            self.same(rank_table(row=row), table_of(k, counts))
            self.same([type(ranks) for ranks in rank_table(row)], [list] * (k + 1))

    def test_one_place_and_seven(self):
        for size in range(7):
            self.same(rank_table(Row("", 13, [size], [])), [[size]])
        for pattern in ("<" * 6, ">" * 6):
            self.same(rank_table(row_with(pattern, 5, {(0, 6): 6})), [[6] * (7 - place) for place in range(7)])
            self.same(rank_table(row_with(pattern, 5, {(p, p): 6 for p in range(7)})),
                      [[6] + [0] * (6 - place) for place in range(7)])
            self.same(rank_table(Row(pattern, 5, [0] * 7, [[]] * 6)), [[0] * (7 - place) for place in range(7)])

    def test_turned_and_dual_rows(self):
        values = sequence(103)
        for at in range(40):
            k = at % 5
            row = some_row(values, ">" * k, 7, [next(values) % 7 for _ in range(k + 1)], 1 + at % 4)
            found = rank_table(row)
            self.same(rank_table(row.dual()), found)
            turned = rank_table(row.turned())
            self.same(turned, [[found[k - j][j - i] for j in range(i, k + 1)] for i in range(k + 1)])

    def test_rows_with_arrows_of_both_kinds(self):
        for pattern in all_patterns(6):
            row = bar_row(pattern, 3, (0, 0))
            if len(set(pattern)) == 2:
                self.refuses(NotOneWay, row.pattern, rank_table, row)
                self.refuses(NotOneWay, row.pattern, rank_table, row=row)
            else:
                self.same(rank_table(row)[0], [1] + [0] * len(pattern))

    def test_a_returned_table_may_be_changed(self):
        row = row_with(">>", 3, {(0, 1): 2})
        found = rank_table(row)
        found[0].clear()
        found.pop()
        self.same(rank_table(row), [[2, 2, 0], [2, 0], [0]])


class AllTables(RowTest):

    def all_rows(self, prime, sizes):
        choices = [all_matrices(prime, sizes[at], sizes[at + 1]) for at in range(len(sizes) - 1)]
        for maps in itertools.product(*choices):
            yield Row(">" * len(choices), prime, sizes, maps)

    def just_the_tables_of_rows(self, prime, sizes):
        """Of all tables with some sizes just those of rows are taken; returns how many are, and how many are not."""
        found = {}
        for row in self.all_rows(prime, sizes):
            found.setdefault(repr(rank_table(row)), []).append(row)
        seen = {True: 0, False: 0}
        for table in all_tables(sizes, max(sizes)):
            rows = found.get(repr(table), [])
            self.assertIs(is_rank_table(table), len(rows) > 0, table)
            below = [bar for bar in all_bars(len(sizes) - 1) if number_by(table, *bar) < 0]
            self.same(clash(table), below[0] if below else None)
            self.assertEqual(below == [], len(rows) > 0)
            seen[not below] += 1
            if below:
                self.same(self.raised(bars_of, table).bar, below[0])
            else:
                told = bars_of(table)
                for row in rows[:3] + rows[-3:]:
                    self.assertEqual(told, numbers(row))
        self.assertEqual(seen[True], len(found))
        return [seen[True], seen[False]]

    def test_tables_of_one_place(self):
        for size in range(7):
            self.assertEqual(self.just_the_tables_of_rows(2, [size])[0], 1)

    def test_tables_of_two_places(self):
        for sizes in itertools.product(range(3), repeat=2):
            for prime in (2, 3):
                self.just_the_tables_of_rows(prime, list(sizes))

    def test_tables_of_three_places(self):
        taken = left = 0
        for sizes in itertools.product(range(3), repeat=3):
            yes, no = self.just_the_tables_of_rows(2, list(sizes))
            taken, left = taken + yes, left + no
        self.assertGreater(min(taken, left), 70)
        self.just_the_tables_of_rows(3, [1, 2, 1])

    def test_tables_of_four_places(self):
        for sizes in ([1, 1, 1, 1], [1, 2, 1, 1], [1, 1, 2, 1]):
            self.just_the_tables_of_rows(2, sizes)


class Numbers(RowTest):

    def test_great_tables(self):
        values = sequence(104)
        seen = {True: 0, False: 0}
        for at in range(400):
            k = at % 7
            table = table_of(k, some_numbers(values, k))
            if at % 2 == 1:
                i = next(values) % (k + 1)
                j = next(values) % (k + 1 - i)
                table[i][j] = max(0, min(6, table[i][j] + (1 if next(values) % 2 else -1)))
            below = [bar for bar in all_bars(k) if number_by(table, *bar) < 0]
            self.same(clash(table=table), below[0] if below else None)
            self.assertIs(is_rank_table(value=table), not below)
            seen[not below] += 1
            if not below:
                told = bars_of(table=table)
                self.assertEqual(told, {bar: number_by(table, *bar) for bar in all_bars(k)})
                row = row_of_table(prime=PRIMES[at % 6], table=table)
                self.same([row.pattern, row.prime], [">" * k, PRIMES[at % 6]])
                self.same(rank_table(row), table)
                self.assertEqual(numbers(row), told)
            else:
                for found in (self.raised(bars_of, table), self.raised(row_of_table, 2, table)):
                    self.assertIs(type(found), NegativeBar)
                    self.same(found.bar, below[0])
        self.assertGreater(min(seen.values()), 50)

    def test_lists_and_tuples(self):
        for table in ([[1, 1, 0], [2, 1], [1]], ((1, 1, 0), (2, 1), (1,)), [(1, 1, 0), [2, 1], (1,)],
                      ([1, 1, 0], (2, 1), [1])):
            self.assertIs(is_rank_table(table), True)
            self.assertIs(clash(table), None)
            self.assertEqual({bar: n for bar, n in bars_of(table).items() if n > 0}, {(0, 1): 1, (1, 2): 1})
            self.same(rank_table(row_of_table(2, table)), [[1, 1, 0], [2, 1], [1]])
            for call in (clash, bars_of, is_rank_table):
                self.keeps_arguments(call, table)
            self.keeps_arguments(row_of_table, 3, table)
        found = bars_of([[2]])
        found[0, 0] = 5
        self.assertEqual(bars_of([[2]]), {(0, 0): 2})

    def test_tables_that_clash(self):
        for table, bar in (
            ([[1, 1, 1], [1, 0], [1]], (1, 2)), ([[1, 1, 0], [1, 1], [1]], (1, 1)), ([[0, 1], [1]], (0, 0)),
            ([[1, 1], [0]], (1, 1)), ([[2, 1, 1], [1, 1], [2]], None), ([[6, 6], [5]], (1, 1)), ([[0, 0], [0]], None),
            ([[1, 0, 1], [1, 0], [1]], (0, 1)), ([[2] * 7] + [[1] * n for n in range(6, 0, -1)], (1, 6)),
            ([[0] * n for n in range(6, 1, -1)] + [[6]], None),
        ):
            self.same(clash(table), bar)
            self.assertIs(is_rank_table(table), bar is None)
            before = repr(table)
            if bar is not None:
                for found in (self.raised(bars_of, table), self.raised(row_of_table, 13, table)):
                    self.assertIs(type(found), NegativeBar)
                    self.same(found.bar, bar)
            self.assertEqual(repr(table), before)


def wrong_tables():
    wrong = things() + [0, 1, GREAT, [], (), [[]], ((),), [1], (1,), [[1, 1]], [[1], [1, 1]], [[1], [1]]]
    wrong += [[[1, 1]] * 2, [[1, 1], [1], []], [[], [1]], [[1, 1, 1], [1], [1]], [[[1]]], {0: [1]}, [{0: 1}], ["1"]]
    wrong += [[[0] * n for n in range(8, 0, -1)], [[0] * n for n in range(7, 1, -1)], [[0] * 7] * 7, [[-1]], [[7]]]
    for item in things() + [-1, 7, GREAT, -GREAT, [1], (1,), "1"]:
        wrong += [[[item]], [[1, item], [1]], [[1, 0], [item]], ((0, 0), (item,)), [[item, 0], [1]]]
    return wrong + [[[1, 1], item] for item in things() + [1, "1", {0: 1}]]


class Wrong(RowTest):

    def test_what_is_no_table(self):
        for wrong in wrong_tables():
            with self.subTest(wrong=wrong):
                self.assertIs(is_rank_table(wrong), False)
                self.refuses(InvalidTable, wrong, clash, wrong)
                self.refuses(InvalidTable, wrong, bars_of, wrong)
                self.refuses(InvalidTable, wrong, row_of_table, 5, wrong)

    def test_primes_come_first(self):
        self.refuses_in_order(row_of_table, {"prime": 5, "table": [[1, 0], [1]]}, [
            ("prime", InvalidPrime, wrong_primes()), ("table", InvalidTable, wrong_tables()),
        ])
        for wrong in wrong_primes():
            self.refuses(InvalidPrime, wrong, row_of_table, wrong, [[0, 1], [1]])

    def test_tables_that_clash_and_have_wrong_items_too(self):
        for item in (True, None, -1, 7):
            table = [[1, 1, 0], [1, 1], [item]]
            self.refuses(InvalidTable, table, clash, table)
            self.refuses(InvalidTable, table, bars_of, table)


if __name__ == "__main__":
    unittest.main()
