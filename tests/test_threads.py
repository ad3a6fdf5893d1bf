"""Points 7, 8 and 50 to 52: threads that take rows apart, and numbers of rows."""

import itertools
import unittest

from helps import (
    GREAT, PRIMES, RowTest, all_bars, all_matrices, all_patterns, ends_of, in_other_coordinates, lead, sequence,
    some_numbers, some_row, some_rows, things, wrong_bars,
)
from maprows.rows import Row, bar_row, row_with
from maprows.spaces import Space
from maprows.threads import is_threads, numbers, threads


def take_apart(row, told):
    """Whether threads take a row apart, straight from the definition."""
    for (first, last), thread in told:
        if len(thread) != last - first + 1:
            return False
        for index in range(len(row.pattern)):
            start, goal = ends_of(row.pattern, index)
            if first <= start <= last:
                vector = lead(row.prime, thread[start - first], row.matrix(index), row.sizes[goal])
                inside = first <= goal <= last
                if vector != (tuple(thread[goal - first]) if inside else (0,) * row.sizes[goal]):
                    return False
    for place, size in enumerate(row.sizes):
        there = [thread[place - first] for (first, last), thread in told if first <= place <= last]
        if len(there) != size or len(Space(row.prime, size, there)) != size:
            return False
    return True


def counted(row, told):
    counts = {bar: 0 for bar in all_bars(len(row.pattern))}
    for bar, _ in told:
        counts[bar] += 1
    return counts


class Threads(RowTest):

    def are_right(self, row):
        told = threads(row)
        self.assertIs(type(told), list)
        for item in told:
            self.assertIs(type(item), tuple)
            self.assertIs(type(item[1]), list)
            for vector in item[1]:
                self.assertIs(type(vector), tuple)
                self.assertTrue(all(type(number) is int and 0 <= number < row.prime for number in vector))
        found = [bar for bar, _ in told]
        self.assertEqual(found, sorted(found))
        self.assertTrue(take_apart(row, told))
        self.assertIs(is_threads(row, told), True)
        self.same(threads(row), told)
        self.same(sorted(numbers(row).items()), sorted(counted(row, told).items()))

    def test_all_small_rows(self):
        for pattern in ("<", ">"):
            for sizes in itertools.product(range(3), repeat=2):
                height, width = sizes if pattern == ">" else sizes[::-1]
                for matrix in all_matrices(3, height, width):
                    self.are_right(Row(pattern, 3, sizes, [matrix]))
        for pattern in all_patterns(2, 2):
            for sizes in ((1, 2, 1), (2, 1, 2), (1, 1, 2), (2, 2, 1), (0, 2, 1)):
                choices = []
                for index in range(2):
                    start, goal = ends_of(pattern, index)
                    choices.append(all_matrices(2, sizes[start], sizes[goal]))
                for maps in itertools.product(*choices):
                    self.are_right(Row(pattern, 2, sizes, maps))

    def test_many_rows(self):
        for row in some_rows(61, 300, 6, 6):
            self.are_right(row)

    def test_rows_of_maps_without_items_and_of_zeros(self):
        for pattern in all_patterns(4):
            k = len(pattern)
            for sizes in ([0] * (k + 1), [6] * (k + 1), ([0, 3] * 4)[:k + 1], ([3, 0] * 4)[:k + 1]):
                maps = []
                for index in range(k):
                    start, goal = ends_of(pattern, index)
                    maps.append([(0,) * sizes[goal]] * sizes[start])
                row = Row(pattern, 5, sizes, maps)
                self.are_right(row)
                expected = {(place, place): size for place, size in enumerate(sizes)}
                self.assertEqual({bar: n for bar, n in numbers(row).items() if n > 0 or bar in expected}, expected)

    def test_the_greatest_rows(self):
        values = sequence(62)
        for pattern in all_patterns(6, 6)[::5]:
            for ranks in (None, 5, 3):
                self.are_right(some_row(values, pattern, PRIMES[next(values) % 6], [6] * 7, ranks))

    def test_what_is_told_may_be_changed(self):
        row = Row("><", 5, (1, 2, 1), [[(1, 2)], [(2, 4)]])
        told, counts = threads(row), numbers(row)
        before, amounts = repr(told), dict(counts)
        told[0][1].clear()
        told.clear()
        counts.clear()
        self.assertEqual(repr(threads(row)), before)
        self.assertEqual(numbers(row=row), amounts)
        self.assertEqual(row.text(), "5: 1 > 2 < 1; 1 2; 2 4")


class Numbers(RowTest):

    def test_an_example(self):
        found = numbers(Row("><", 5, (1, 2, 1), [[(1, 2)], [(2, 4)]]))
        self.assertEqual(found, {(0, 0): 0, (0, 1): 0, (0, 2): 1, (1, 1): 1, (1, 2): 0, (2, 2): 0})
        for bar, number in found.items():
            self.assertIs(type(number), int)
            self.assertIs(type(bar), tuple)
        self.assertEqual(numbers(Row("", 2, [6], [])), {(0, 0): 6})
        self.assertEqual(numbers(Row("", 2, [0], [])), {(0, 0): 0})

    def test_rows_of_bars(self):
        for pattern in all_patterns(5):
            k = len(pattern)
            for bar in all_bars(k):
                self.assertEqual(numbers(bar_row(pattern, 7, bar)), {other: int(other == bar) for other in all_bars(k)})

    def test_rows_of_bars_beside_one_another_in_other_coordinates(self):
        values = sequence(63)
        for at in range(200):
            k = at % 7
            pattern = "".join("<>"[next(values) % 2] for _ in range(k))
            told = some_numbers(values, k)
            row = row_with(pattern, PRIMES[next(values) % 6], told)
            expected = {bar: told.get(bar, 0) for bar in all_bars(k)}
            self.assertEqual(numbers(row), expected)
            other = in_other_coordinates(values, row)
            self.assertEqual(numbers(other), expected)
            self.assertTrue(take_apart(other, threads(other)))

    def test_numbers_of_rows_beside_one_another_add_up(self):
        values = sequence(64)
        for at in range(60):
            k, prime = at % 6, PRIMES[at % 5]
            pattern = "".join("<>"[next(values) % 2] for _ in range(k))
            one, other = [some_row(values, pattern, prime, [next(values) % 4 for _ in range(k + 1)], 2) for _ in "12"]
            first, second = numbers(one), numbers(other)
            self.assertEqual(numbers(one + other), {bar: first[bar] + second[bar] for bar in first})

    def test_numbers_of_turned_and_dual_rows(self):
        for row in some_rows(65, 60, 6, 6):
            k, found = len(row.pattern), numbers(row)
            self.assertEqual(numbers(row.dual()), found)
            turned = numbers(row.turned())
            self.assertEqual(turned, {(k - last, k - first): number for (first, last), number in found.items()})


class IsThreads(RowTest):

    def test_many_other_lists_of_threads(self):
        values = sequence(66)
        seen = {True: 0, False: 0}
        for row in some_rows(67, 400, 4, 3, (2, 3, 5)):
            told = changed(values, row, threads(row))
            expected = take_apart(row, told)
            self.assertIs(is_threads(row, told), expected, (row.text(), told))
            seen[expected] += 1
        self.assertGreater(min(seen.values()), 50)

    def test_lists_and_tuples_and_great_items(self):
        row = Row("><", 5, (1, 2, 1), [[(1, 2)], [(2, 4)]])
        good = [
            [((0, 2), [(1,), (1, 2), (3,)]), ((1, 1), [(0, 1)])], (((0, 2), ((1,), (1, 2), (3,))), ((1, 1), ((0, 1),))),
            [((1, 1), [[0, 1]]), ((0, 2), ([1], [1, 2], [3]))], [((0, 2), [[1], (1, 2), [3]]), ((1, 1), ([0, 1],))],
            [((0, 2), [(-4,), (5 * 10 ** 28 + 1, -3), (8,)]), ((1, 1), [(GREAT + 1, GREAT)])],
        ]
        for told in good:
            self.assertIs(is_threads(row, told), True, told)
            self.assertIs(is_threads(row=row, told=told), True, told)
            self.keeps_arguments(is_threads, row, told)

    def test_what_is_no_list_of_threads(self):
        row = Row("><", 5, (1, 2, 1), [[(1, 2)], [(2, 4)]])
        first, second = ((0, 2), [(1,), (1, 2), (3,)]), ((1, 1), [(0, 1)])
        self.assertIs(is_threads(row, [second, first]), True)
        wrong = things() + [0, 1, GREAT, [], (), [first], [second], [first, first, second], [first, second, second]]
        wrong += [[first, list(second)], [list(first), second], [first, second, None], [first, second, ()]]
        wrong += [[first, second, []], [first, second + (0,)], [first, ((1, 1),)], {0: first, 1: second}]
        wrong += [{(0, 2): first[1], (1, 1): second[1]}]
        wrong += [[first, ([1, 1], [(0, 1)])], [([0, 2], first[1]), second], [first, ((1, 1, 1), [(0, 1)])]]
        for bar in wrong_bars(2):
            wrong += [[first, (bar, [(0, 1)])], [first, second, (bar, [(0, 1)])], [(bar, first[1]), second]]
        threads_of_none = [[], (), (0, 1), [0, 1], [(0, 1), (0, 1)], [(0,)], [(0, 1, 0)], [[]], [None], [0]]
        for thread in things() + threads_of_none + [0, 1]:
            wrong += [[first, ((1, 1), thread)], [((0, 2), thread), second]]
        for item in things() + [[1], (1,), "1"]:
            wrong += [[first, ((1, 1), [(0, item)])], [first, ((1, 1), [[item, 1]])]]
            wrong += [[((0, 2), [(1,), (1, 2), (item,)]), second]]
        for told in wrong:
            with self.subTest(told=told):
                self.assertIs(is_threads(row, told), False)

    def test_threads_of_other_vectors(self):
        row = Row("><", 5, (1, 2, 1), [[(1, 2)], [(2, 4)]])
        second = ((1, 1), [(0, 1)])
        for vectors in ([(1,), (1, 2), (2,)], [(1,), (2, 4), (3,)], [(2,), (1, 2), (3,)], [(0,), (0, 0), (0,)],
                        [(1,), (1, 3), (3,)], [(1,), (1, 2)], [(1,), (1, 2), (3,), (0,)]):
            self.assertIs(is_threads(row, [((0, 2), vectors), second]), False, vectors)
        self.assertIs(is_threads(row, [((0, 2), [(2,), (2, 4), (1,)]), second]), True)
        self.assertIs(is_threads(row, [((0, 2), [(1,), (1, 2), (3,)]), ((1, 1), [(3, 6)])]), False)

    def test_threads_that_begin_and_end_as_the_arrows_ask(self):
        onto, along = [(1, 0)], [(1,), (0,)]
        for pattern, maps, free in (
            ("><", [onto, onto], True), ("<>", [along, along], False), (">>", [onto, along], False),
            ("<<", [along, onto], False),
        ):
            row = Row(pattern, 3, (1, 2, 1), maps)
            through = ((0, 2), [(1,), (1, 0), (1,)])
            self.assertIs(is_threads(row, [through, ((1, 1), [(0, 1)])]), True)
            # Only where both arrows lead to the place may the vector be any one beside the other thread.
            self.assertIs(is_threads(row, [through, ((1, 1), [(1, 1)])]), free)
            # Only where both arrows lead away from it may the other thread take up the vector.
            also = ((0, 2), [(1,), (1, 1), (1,)])
            self.assertIs(is_threads(row, [also, ((1, 1), [(0, 1)])]), pattern == "<>")

    def test_rows_without_vectors(self):
        row = Row("><", 2, [0, 0, 0], [[], []])
        self.assertIs(is_threads(row, []), True)
        self.assertIs(is_threads(row, ()), True)
        self.assertIs(is_threads(row, [((0, 0), [()])]), False)
        for told in things():
            self.assertIs(is_threads(row, told), False)


def changed(values, row, told):
    """Threads with something changed about them, so that they may not take the row apart."""
    told = [(bar, list(thread)) for bar, thread in told]
    kind = next(values) % 6
    if len(told) == 0:
        return told
    at, other = next(values) % len(told), next(values) % len(told)
    (first, last), thread = told[at]
    if kind == 0:
        del told[at]
    elif kind == 1:
        told.append(told[at])
    elif kind == 2:
        place = next(values) % len(thread)
        thread[place] = tuple((item + next(values) % 2) % row.prime for item in thread[place])
    elif kind == 3:
        factor = next(values) % row.prime
        told[at] = ((first, last), [tuple(factor * item % row.prime for item in vector) for vector in thread])
    elif kind == 4:
        told[at] = taken_up(row, told[at], told[other], 1 + next(values) % 3)
    else:
        told.reverse()
    return told


def taken_up(row, one, other, factor):
    """A thread to which a multiple of another one is added at all places that both hold."""
    (first, last), thread = one
    (begin, end), more = other
    return ((first, last), [
        tuple((item + factor * put) % row.prime for item, put in zip(vector, more[place - begin]))
        if begin <= place <= end else vector for place, vector in enumerate(thread, first)
    ])


class Multiples(RowTest):

    def test_which_thread_may_take_up_which(self):
        tried = {True: 0, False: 0}
        for row in some_rows(68, 150, 5, 4):
            told = threads(row)
            k = len(row.pattern)
            reaching = [at for at, (bar, _) in enumerate(told) if bar[1] == k]
            for at, to in itertools.permutations(reaching, 2):
                birth, other = told[at][0][0], told[to][0][0]
                later = max(birth, other)
                may = birth == other or (row.pattern[later - 1] == ">") == (birth == later)
                for factor in (1, -1, GREAT if GREAT % row.prime else GREAT - 1):
                    put = told[:at] + [taken_up(row, told[at], told[to], factor)] + told[at + 1:]
                    self.assertIs(is_threads(row, put), may)
                    tried[may] += 1
                put = told[:at] + [taken_up(row, told[at], told[to], row.prime * 3)] + told[at + 1:]
                self.assertIs(is_threads(row, put), True)
        self.assertGreater(min(tried.values()), 100)


if __name__ == "__main__":
    unittest.main()
