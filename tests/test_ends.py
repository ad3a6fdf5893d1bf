"""Points 110 to 113: what the two ends of a row know of one another."""

import itertools
import unittest

from helps import (
    GREAT, PRIMES, RowTest, all_bars, all_patterns, all_vectors, ends_of, in_other_coordinates, lead, sequence,
    some_numbers, some_row, some_rows, span, units, wrong_numbers, wrong_patterns, wrong_vectors,
)
from maprows.ends import chain, leads_to, related, relation, relation_numbers
from maprows.errors import InvalidNumbers, InvalidPattern, InvalidVector
from maprows.rows import Row, bar_row, row_with
from maprows.spaces import Space


def all_chains(row):
    """All chains of a row, each place gone through."""
    found = [(vector,) for vector in all_vectors(row.prime, row.sizes[0])]
    for index in range(len(row.pattern)):
        there = all_vectors(row.prime, row.sizes[index + 1])
        found = [told + (vector,) for told in found for vector in there if agree(row, index, told[-1], vector)]
    return found


def agree(row, index, one, other):
    """Whether an arrow leads the vector of the one of its places to that of the other."""
    if row.pattern[index] == ">":
        return lead(row.prime, one, row.matrix(index), row.sizes[index + 1]) == other
    return lead(row.prime, other, row.matrix(index), row.sizes[index]) == one


def is_chain(row, told):
    return len(told) == len(row) and all(
        len(vector) == size and all(type(item) is int and 0 <= item < row.prime for item in vector)
        for vector, size in zip(told, row.sizes)
    ) and all(agree(row, index, told[index], told[index + 1]) for index in range(len(row.pattern)))


def small_rows():
    """Rows whose chains can be gone through: all patterns of up to three arrows, sizes of up to two, low ranks."""
    values = sequence(141)
    for pattern in all_patterns(3):
        k = len(pattern)
        for at in range(8 if k < 3 else 5):
            sizes = [next(values) % 3 for _ in range(k + 1)] if at else [2] * (k + 1)
            yield some_row(values, pattern, 2 if at % 3 else 3, sizes, None if at % 2 else 1)
    for sizes in ([3, 1, 2], [1, 3, 1], [2, 3, 2]):
        for pattern in all_patterns(2, 2):
            yield some_row(values, pattern, 2, sizes, 2)


def all_rows_of_two_arrows():
    """All rows with two arrows and some small sizes modulo 2."""
    for pattern in all_patterns(2, 2):
        for sizes in ((1, 1, 1), (1, 2, 1), (2, 1, 1)):
            shapes = [[sizes[place] for place in ends_of(pattern, index)] for index in range(2)]
            choices = [list(itertools.product(all_vectors(2, width), repeat=height)) for height, width in shapes]
            for maps in itertools.product(*choices):
                yield Row(pattern, 2, sizes, list(maps))


class Chains(RowTest):

    def is_right(self, row):
        told = all_chains(row)
        pairs = {(one[0], one[-1]) for one in told}
        prime, first, last = row.prime, row.sizes[0], row.sizes[-1]
        found = relation(row)
        self.assertIs(type(found), Space)
        self.same([found.prime, found.length], [prime, first + last])
        self.assertEqual(span(prime, first + last, found.basis()), {one + other for one, other in pairs})
        for vector in all_vectors(prime, first):
            others = {other for one, other in pairs if one == vector}
            for other in all_vectors(prime, last):
                self.assertIs(related(row, vector, other), other in others)
                through = chain(row, vector, other)
                if other in others:
                    self.assertIs(type(through), list)
                    self.assertIn(tuple(through), told)
                    self.assertEqual((through[0], through[-1]), (vector, other))
                else:
                    self.assertIs(through, None)
            self.is_led(row, vector, others)

    def is_led(self, row, vector, others):
        found = leads_to(row, vector)
        if not others:
            self.assertIs(found, None)
            return
        self.assertIs(type(found), tuple)
        other, space = found
        self.same([type(other), type(space)], [tuple, Space])
        self.same([space.prime, space.length, other in others], [row.prime, row.sizes[-1], True])
        differences = {
            tuple((a - b) % row.prime for a, b in zip(one, two)) for one, two in itertools.product(others, repeat=2)
        }
        self.assertEqual(span(row.prime, space.length, space.basis()), differences)

    def test_rows_whose_chains_are_gone_through(self):
        for row in small_rows():
            self.is_right(row)

    def test_all_rows_of_two_arrows(self):
        for row in all_rows_of_two_arrows():
            self.is_right(row)

    def test_rows_of_bars_and_beside_one_another(self):
        for pattern in all_patterns(3) + ["><><><", "<><><>", "<<>>><", ">>>>>>", "<<<<<<"]:
            bars = all_bars(len(pattern))
            for bar, other in list(zip(bars, bars[1:])) + [(bars[0], bars[-1]), (bars[-1], bars[-1])]:
                self.is_right(bar_row(pattern, 2, bar) + bar_row(pattern, 2, other))

    def test_rows_with_one_place(self):
        for prime, size in itertools.product(PRIMES, range(7)):
            row = Row("", prime, [size], [])
            self.assertTrue(relation(row) == Space(prime, 2 * size, [unit + unit for unit in units(size)]))
            vector = [item + prime for item in range(size)]
            taken = tuple(item % prime for item in vector)
            self.same(chain(row, vector, taken), [taken])
            self.same(leads_to(row, vector)[0], taken)
            self.assertTrue(leads_to(row, vector)[1] == Space.nothing(prime, size))
            self.assertIs(related(row, taken, vector), True)
            if size > 0:
                other = (vector[0] + 1, *vector[1:])
                self.assertIs(related(row, vector, other), False)
                self.assertIs(chain(row, vector, other), None)

    def test_great_rows(self):
        values = sequence(142)
        for at in range(60):
            k = 1 + at % 6
            pattern = "".join("<>"[next(values) % 2] for _ in range(k))
            row = some_row(values, pattern, PRIMES[at % 6], [6 - at % 2] * (k + 1), 2 + at % 4)
            found, first = relation(row), row.sizes[0]
            domain = Space(row.prime, first, [pair[:first] for pair in found.basis()])
            for pair in found.basis():
                one, other = pair[:first], pair[first:]
                self.assertIs(related(row, one, other), True)
                self.assertTrue(is_chain(row, chain(row, one, other)))
                self.assertTrue(is_chain(row, chain(row, one, leads_to(row, one)[0])))
            for _ in range(3):
                one = tuple(next(values) % 20 - 9 for _ in range(first))
                other = tuple(next(values) % 20 - 9 for _ in range(row.sizes[-1]))
                expected = one + other in found
                self.assertIs(related(row, one, other), expected)
                self.assertIs(chain(row, one, other) is not None, expected)
                self.assertIs(leads_to(row, one) is not None, one in domain)


class Ends(RowTest):

    def test_turned_rows(self):
        for row in some_rows(143, 80, 5, 5):
            first, found = row.sizes[0], relation(row)
            turned = [pair[first:] + pair[:first] for pair in found.basis()]
            self.assertTrue(relation(row.turned()) == Space(row.prime, found.length, turned))

    def test_lists_and_tuples_and_great_items(self):
        row = Row("><", 5, [2, 1, 2], [[(1,), (2,)], [(1,), (0,)]])
        text = row.text()
        for vector in ((1, 1), [1, 1], (6, -4), [1 + 5 * 10 ** 29, GREAT + 2]):
            for other in ((3, 0), [3, 0], (-2, 5), [GREAT - 1, -GREAT - 1]):
                self.assertIs(related(row=row, vector=vector, other=other), True)
                self.same(chain(row=row, vector=vector, other=other), [(1, 1), (3,), (3, 0)])
                self.keeps_arguments(related, row, vector, other)
                self.keeps_arguments(chain, row, vector, other)
            other, space = leads_to(row=row, vector=vector)
            self.same([other[0], [0 <= item < 5 for item in other]], [3, [True, True]])
            self.same(space.basis(), [(0, 1)])
        self.assertEqual(row.text(), text)
        chain(row, (1, 1), (3, 0)).clear()
        self.same(chain(row, (1, 1), (3, 0)), [(1, 1), (3,), (3, 0)])

    def test_sizes_of_zero(self):
        row = Row("><", 3, [0, 0, 0], [[], []])
        self.same(relation(row).basis(), [])
        self.same(chain(row, (), []), [(), (), ()])
        self.same(leads_to(row, ())[0], ())
        self.assertIs(related(row, [], ()), True)
        row = Row("<>", 3, [2, 0, 2], [[], []])
        self.same([relation(row).length, relation(row).basis()], [4, []])
        self.same(chain(row, (3, -3), (0, 0)), [(0, 0), (), (0, 0)])
        self.same([chain(row, (1, 0), (0, 0)), leads_to(row, (1, 0))], [None, None])
        self.assertIs(related(row, (0, 0), (0, 1)), False)
        row = Row("><", 3, [6, 0, 6], [[()] * 6, [()] * 6])
        self.same(len(relation(row)), 12)
        self.assertIs(related(row, [1] * 6, [2] * 6), True)
        self.same(chain(row, [1] * 6, [2] * 6), [(1,) * 6, (), (2,) * 6])
        self.same(len(leads_to(row, [1] * 6)[1]), 6)


class Numbers(RowTest):

    def test_the_dimensions_that_are_told(self):
        values = sequence(144)
        for at in range(150):
            k = at % 7
            pattern = "".join("<>"[next(values) % 2] for _ in range(k))
            counts, prime = some_numbers(values, k), PRIMES[at % 6]
            row = in_other_coordinates(values, row_with(pattern, prime, counts))
            found = relation_numbers(pattern, counts)
            self.same([type(found), len(found), [type(number) for number in found]], [tuple, 3, [int] * 3])
            first, last, pairs = row.sizes[0], row.sizes[-1], relation(row)
            ones = Space(prime, first + last, [unit + (0,) * last for unit in units(first)])
            others = Space(prime, first + last, [(0,) * first + unit for unit in units(last)])
            self.same(found, (counts.get((0, k), 0), len(pairs & ones), len(pairs & others)))
            self.assertEqual(sum(found), len(pairs))
            self.assertEqual(len(leads_to(row, (0,) * first)[1]), found[2])
            full = {bar: counts.get(bar, 0) for bar in all_bars(k)}
            self.same(self.keeps_arguments(relation_numbers, pattern, full), found)

    def test_names_and_edges(self):
        self.same(relation_numbers(pattern="", numbers={(0, 0): 6}), (6, 0, 0))
        self.same(relation_numbers("<<<>>>", {}), (0, 0, 0))
        self.same(relation_numbers(">" * 6, {(0, 5): 2, (1, 6): 3, (0, 6): 1}), (1, 2, 0))
        self.same(relation_numbers("<" * 6, {(0, 5): 2, (1, 6): 3, (0, 6): 1}), (1, 0, 3))


class Wrong(RowTest):

    def test_vectors(self):
        for row in (Row("><", 5, [2, 1, 3], [[(1,), (2,)], [(1,), (0,), (3,)]]), Row("", 2, [1], []),
                    Row("<", 3, [0, 2], [[(), ()]])):
            first, last = row.sizes[0], row.sizes[-1]
            good = {"vector": (1,) * first, "other": (0,) * last}
            for call in (related, chain):
                self.refuses_in_order(lambda vector, other: call(row, vector, other), good, [
                    ("vector", InvalidVector, wrong_vectors(first)), ("other", InvalidVector, wrong_vectors(last)),
                ])
            for wrong in wrong_vectors(first):
                self.refuses(InvalidVector, wrong, leads_to, row, wrong)
                self.refuses(InvalidVector, wrong, leads_to, row=row, vector=wrong)

    def test_numbers(self):
        for pattern in ("", ">", "<><"):
            self.refuses_in_order(relation_numbers, {"pattern": pattern, "numbers": {(0, 0): 1}}, [
                ("pattern", InvalidPattern, wrong_patterns()),
                ("numbers", InvalidNumbers, wrong_numbers(len(pattern))),
            ])


if __name__ == "__main__":
    unittest.main()
