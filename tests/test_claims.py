"""Points 70 to 73: claims about dimensions of words."""

import itertools
import unittest

from helps import (
    GREAT, PRIMES, RowTest, all_bars, all_patterns, in_other_coordinates, sequence, some_numbers, some_rows, some_word,
    units,
)
from maprows.claims import Claim, bar_claim, holds, likewise, refuting
from maprows.rows import Row, bar_row, row_with
from maprows.threads import numbers
from maprows.words import Word, carried, value


def some_claim(values, k, many, most=4):
    """A claim with a number of terms, whose words have any places of a pattern with k arrows."""
    return Claim([
        (next(values) % (2 * most + 1) - most, some_word(values, next(values) % (k + 1), 1 + next(values) % 3, 3, k))
        for _ in range(many)
    ])


def sum_in(claim, row):
    """The sum in a row, straight from the definition."""
    return sum(factor * len(value(word, row)) for factor, word in claim.terms)


def told(claim):
    """What a claim is made of, as a text."""
    return [(factor, word.text()) for factor, word in claim.terms]


class Making(RowTest):

    def test_terms(self):
        word = Word.read("1@0 & left(1@1)")
        terms = [(3, word), (-GREAT, Word.whole(6)), (0, word), (3, word)]
        for given in (terms, tuple(terms)):
            claim = Claim(given)
            self.assertIs(type(claim.terms), tuple)
            self.same(told(claim), [(3, word.text()), (-GREAT, "1@6"), (0, word.text()), (3, word.text())])
            for item in claim.terms:
                self.assertIs(type(item), tuple)
        self.same(Claim(terms=[]).terms, ())
        self.same(Claim(()).terms, ())

    def test_claims_never_change(self):
        terms = [(1, Word.whole(0)), (-1, Word.whole(1))]
        claim = Claim(terms)
        before = told(claim)
        terms[0] = (5, Word.none(2))
        terms.append((7, Word.whole(3)))
        self.same(told(claim), before)
        terms.clear()
        self.same(told(claim), before)
        for made in (-claim, claim * 3, claim + claim, claim - claim):
            self.assertIs(type(made), Claim)
        claim.on_bars(">").clear()
        self.same(told(claim), before)
        self.same(claim.on_bars(">"), {(0, 0): 1, (0, 1): 0, (1, 1): -1})

    def test_equal_claims(self):
        one, other = Word.read("right(1@0) + 0@1"), Word.whole(0).right() + Word.none(1)
        claim = Claim([(2, one), (-3, Word.whole(0))])
        self.assertTrue(claim == Claim(((2, other), (-3, Word.whole(0)))))
        self.assertFalse(claim != Claim(((2, other), (-3, Word.whole(0)))))
        self.assertTrue(Claim([]) == Claim(()))
        for terms in (
            [], [(2, one)], [(-3, Word.whole(0)), (2, one)], [(2, one), (3, Word.whole(0))], [(2, one), (-3, one)],
            [(2, one), (-3, Word.whole(0)), (0, one)], [(1, one), (1, one), (-3, Word.whole(0))],
            [(2, Word.none(1) + Word.whole(0).right()), (-3, Word.whole(0))], [(2, Word.read("right(1@0)"))],
        ):
            self.assertFalse(claim == Claim(terms))
            self.assertTrue(claim != Claim(terms))
        for thing in (None, 2, "x", claim.terms, list(claim.terms), one, {}, Row("", 2, [1], [])):
            self.assertFalse(claim == thing)
            self.assertFalse(thing == claim)
            self.assertFalse(Claim([]) == thing)
        self.assertFalse(Claim([]) == ())

    def test_fits(self):
        claim = Claim([(1, Word.whole(0)), (0, Word.read("left(right(left(1@3)))")), (2, Word.whole(1))])
        for pattern in all_patterns(6):
            self.assertIs(claim.fits(pattern), len(pattern) >= 3)
            self.assertIs(Claim([]).fits(pattern), True)
            self.assertIs(Claim([(1, Word.whole(6))]).fits(pattern=pattern), len(pattern) == 6)


class Sums(RowTest):

    def test_sums_in_rows(self):
        values = sequence(81)
        for row in some_rows(82, 150, 6, 6):
            k = len(row.pattern)
            for many in (1, 2, 5, 9):
                claim = some_claim(values, k, many)
                self.same(claim.on(row), sum_in(claim, row))
                self.same(claim.total(row.pattern, numbers(row)), sum_in(claim, row))

    def test_sums_in_rows_of_bars(self):
        values = sequence(83)
        for pattern in all_patterns(4) + all_patterns(6, 6)[::9]:
            k = len(pattern)
            claim = some_claim(values, k, 6)
            found = claim.on_bars(pattern=pattern)
            self.assertEqual(sorted(found), all_bars(k))
            for bar, number in found.items():
                self.assertIs(type(number), int)
                self.assertEqual(number, sum_in(claim, bar_row(pattern, PRIMES[next(values) % 6], bar)))

    def test_sums_are_those_of_the_bars(self):
        values = sequence(84)
        for row in some_rows(85, 60, 5, 5):
            claim = some_claim(values, len(row.pattern), 4)
            sums, counts = claim.on_bars(row.pattern), numbers(row)
            self.assertEqual(claim.on(row=row), sum(sums[bar] * counts[bar] for bar in counts))

    def test_totals(self):
        values = sequence(86)
        for at in range(80):
            k = at % 7
            pattern = "".join("<>"[next(values) % 2] for _ in range(k))
            counts = some_numbers(values, k)
            claim = some_claim(values, k, 1 + at % 6)
            row = in_other_coordinates(values, row_with(pattern, PRIMES[at % 6], counts))
            self.same(claim.total(pattern, counts), sum_in(claim, row))
            full = {bar: counts.get(bar, 0) for bar in all_bars(k)}
            self.same(claim.total(pattern=pattern, numbers=full), sum_in(claim, row))
        self.same(Claim([(1, Word.whole(0))]).total(">", {}), 0)

    def test_claims_without_terms(self):
        for pattern in all_patterns(3):
            self.same(sorted(Claim([]).on_bars(pattern).items()), [(bar, 0) for bar in all_bars(len(pattern))])
            self.same(Claim([]).total(pattern, {(0, 0): 2}), 0)
            self.same(Claim([]).on(bar_row(pattern, 3, (0, len(pattern)))), 0)

    def test_rows_of_sizes_zero_and_six(self):
        claim = Claim([(1, Word.whole(0)), (10, Word.whole(1).left()), (100, Word.whole(0).right())])
        for pattern in "<>":
            self.same(claim.on(Row(pattern, 2, [6, 6], [units(6)])), 666)
            self.same(claim.on(Row(pattern, 2, [0, 0], [[]])), 0)
        self.same(claim.on(Row(">", 13, [6, 0], [[()] * 6])), 66)
        self.same(claim.on(Row("<", 13, [0, 6], [[()] * 6])), 600)

    def test_great_factors(self):
        claim = Claim([(GREAT, Word.whole(0)), (-GREAT, Word.whole(1)), (GREAT, Word.whole(0))])
        self.same(claim.on(row_with(">", 2, {(0, 0): 3, (1, 1): 2})), 4 * GREAT)
        self.same((claim * GREAT).on_bars(">")[(0, 1)], GREAT * GREAT)
        self.same((claim * -GREAT).total(">", {(1, 1): 1}), GREAT * GREAT)

    def test_arguments_stay_as_they_were(self):
        claim = Claim([(1, Word.whole(0)), (-2, Word.whole(1).left())])
        counts = {(0, 1): 2, (0, 0): 1}
        self.keeps_arguments(claim.total, ">", counts)
        self.same(counts, {(0, 1): 2, (0, 0): 1})
        row = row_with(">", 5, counts)
        text = row.text()
        claim.on(row)
        self.same(row.text(), text)

    def test_a_hundred_terms(self):
        values = sequence(87)
        words = [some_word(values, next(values) % 7, 24, 40) for _ in range(100)]
        claim = Claim([(at - 50, word) for at, word in enumerate(words)])
        for pattern in ("><>><<", "<<<<<<"):
            bar = (1, 5)
            self.same(claim.on(bar_row(pattern, 3, bar)), sum_in(claim, bar_row(pattern, 3, bar)))


class Operators(RowTest):

    def test_sums_are_everywhere_what_the_signs_say(self):
        values = sequence(88)
        for row in some_rows(89, 80, 5, 5):
            pattern, k = row.pattern, len(row.pattern)
            one, other = some_claim(values, k, next(values) % 4), some_claim(values, k, next(values) % 4)
            first, second = one.on(row), other.on(row)
            before = told(one), told(other)
            for number in (0, 1, -1, 7, -GREAT):
                self.same((one * number).on(row), first * number)
            self.same([(one + other).on(row), (one - other).on(row), (-one).on(row)],
                      [first + second, first - second, -first])
            self.assertIs(likewise(pattern, one - other, one + -other), None)
            self.assertIs(likewise(pattern, one + one, one * 2), None)
            self.assertIs(likewise(pattern, one - one, Claim([])), None)
            self.same((told(one), told(other)), before)

    def test_unlike_places(self):
        one, other = Claim([(1, Word.whole(0))]), Claim([(1, Word.whole(6))])
        self.same((one + other).on(bar_row("<" * 6, 2, (0, 6))), 2)
        self.same((one - other).on(bar_row("<" * 6, 2, (0, 5))), 1)

    def test_made_claims_may_be_handed_in_again(self):
        claim = Claim([(1, Word.whole(0)), (2, Word.whole(1))])
        for _ in range(7):
            claim = claim + claim
        self.same(claim.on(bar_row(">", 2, (1, 1))), 256)
        self.assertTrue(Claim(claim.terms) == claim)


class Holding(RowTest):

    def test_a_claim_holds_exactly_if_it_does_in_the_rows_of_bars(self):
        values = sequence(90)
        seen = {True: 0, False: 0}
        for pattern in all_patterns(4) * 8:
            k = len(pattern)
            claim = some_claim(values, k, 1 + next(values) % 3, 2)
            below = [bar for bar in all_bars(k) if sum_in(claim, bar_row(pattern, 2, bar)) < 0]
            self.same(refuting(pattern, claim), below[0] if below else None)
            self.assertIs(holds(pattern, claim), not below)
            seen[not below] += 1
        self.assertGreater(min(seen.values()), 30)

    def test_claims_that_hold_do_in_all_rows(self):
        values = sequence(91)
        seen = 0
        for row in some_rows(92, 400, 5, 6):
            claim = some_claim(values, len(row.pattern), 3, 2)
            if holds(pattern=row.pattern, claim=claim):
                self.assertGreaterEqual(sum_in(claim, row), 0)
                seen += 1
            else:
                bar = refuting(pattern=row.pattern, claim=claim)
                self.assertLess(sum_in(claim, bar_row(row.pattern, row.prime, bar)), 0)
        self.assertGreater(seen, 50)

    def test_sylvester(self):
        through = carried(Word.whole(0), 2)
        one, other = Word.whole(0).right(), Word.whole(1).right()
        claim = Claim([(1, through), (1, Word.whole(1)), (-1, one), (-1, other)])
        self.assertIs(holds(">>", claim), True)
        self.same(refuting(">>", -claim), (1, 1))
        self.assertIs(holds(">>", Claim([(1, one), (-1, through)])), True)
        self.same(refuting(">>", Claim([(1, through), (-1, one)])), (0, 1))
        self.same(refuting(">>", claim - Claim([(1, Word.whole(1))])), (0, 1))

    def test_frobenius(self):
        # The ranks of the maps from place i to place j.
        rank = {(i, j): Word.whole(i) if i == j else carried(carried(Word.whole(i), j), j)
                for i, j in itertools.combinations_with_replacement(range(7), 2)}
        for a, b, c, d in ((0, 1, 2, 3), (0, 2, 4, 6), (1, 2, 5, 6), (0, 1, 1, 2), (0, 0, 3, 3)):
            claim = Claim([(1, rank[a, d]), (1, rank[b, c]), (-1, rank[a, c]), (-1, rank[b, d])])
            self.assertIs(holds(">" * 6, claim), True)
            expected = {(first, last): int(a < first <= b and c <= last < d) for first, last in all_bars(6)}
            self.assertEqual(claim.on_bars(">" * 6), expected)

    def test_claims_without_terms_and_of_zeros_hold(self):
        for pattern in all_patterns(3):
            self.assertIs(holds(pattern, Claim([])), True)
            self.assertIs(refuting(pattern, Claim([])), None)
            self.assertIs(holds(pattern, Claim([(0, Word.whole(0)), (-1, Word.none(0))])), True)
            self.same(refuting(pattern, Claim([(-1, Word.whole(len(pattern)))])), (0, len(pattern)))


class Bars(RowTest):

    def test_claims_of_bars(self):
        for pattern in all_patterns(5) + all_patterns(6, 6)[::7]:
            k = len(pattern)
            for bar in all_bars(k):
                claim = bar_claim(pattern=pattern, bar=bar)
                self.assertIs(type(claim), Claim)
                self.assertLessEqual(len(claim.terms), 4)
                self.assertTrue(claim.fits(pattern))
                self.assertEqual(claim.on_bars(pattern), {other: int(other == bar) for other in all_bars(k)})
                self.assertTrue(bar_claim(pattern, bar) == claim)

    def test_numbers_of_rows_in_other_coordinates(self):
        values = sequence(93)
        for at in range(60):
            k = at % 7
            pattern = "".join("<>"[next(values) % 2] for _ in range(k))
            counts = some_numbers(values, k)
            row = in_other_coordinates(values, row_with(pattern, PRIMES[at % 6], counts))
            for bar in all_bars(k):
                claim = bar_claim(pattern, bar)
                self.same(claim.on(row), counts.get(bar, 0))
                self.same(sum_in(claim, row), counts.get(bar, 0))


class Likewise(RowTest):

    def test_the_first_bar_that_differs(self):
        values = sequence(94)
        seen = {True: 0, False: 0}
        for pattern in all_patterns(4) * 6:
            k = len(pattern)
            one, other = some_claim(values, k, 2, 1), some_claim(values, k, 2, 1)
            unlike = [
                bar for bar in all_bars(k)
                if sum_in(one, bar_row(pattern, 2, bar)) != sum_in(other, bar_row(pattern, 2, bar))
            ]
            self.same(likewise(pattern, one, other), unlike[0] if unlike else None)
            seen[not unlike] += 1
        self.assertGreater(min(seen.values()), 5)

    def test_numbers_of_bars_add_up_to_sizes(self):
        for pattern in all_patterns(4):
            k = len(pattern)
            for place in range(k + 1):
                total = Claim([])
                for first, last in all_bars(k):
                    if first <= place <= last:
                        total = total + bar_claim(pattern, (first, last))
                self.assertIs(likewise(pattern=pattern, one=total, other=Claim([(1, Word.whole(place))])), None)

    def test_words_that_are_not_the_same(self):
        one, other = Claim([(1, Word.whole(0).right())]), Claim([(1, Word.whole(1))])
        self.same([likewise(">", one, other), likewise("<", one, other)], [(1, 1), None])
        self.same(likewise("<<", Claim([(1, Word.read("1@0 & left(1@1)"))]), Claim([(1, Word.whole(0))])), (0, 0))


if __name__ == "__main__":
    unittest.main()
