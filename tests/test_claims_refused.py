"""Points 10 to 12 and 70 to 73 on wrong inputs: which exception is due first, and what it keeps."""

import unittest

from helps import GREAT, RowTest, things, wrong_bars, wrong_numbers, wrong_patterns
from maprows.claims import Claim, bar_claim, holds, likewise, refuting
from maprows.errors import InvalidBar, InvalidNumbers, InvalidPattern, InvalidTerms, NotFitting
from maprows.rows import Row, bar_row
from maprows.words import Word

WORD = Word.whole(0)


def no_lists():
    return things() + [0, 1, GREAT, "[]", {(1, 0): WORD}]


def no_terms():
    """What is no tuple of an integer and a word."""
    wrong = things() + [0, 1, GREAT, [], (), [1, WORD], (1,), (WORD,), (1, WORD, 0), (1, WORD, WORD)]
    wrong += [(WORD, 1), (1, "1@0"), (1, (WORD,)), ((1, WORD),), [(1, WORD)], (1, 1), (WORD, WORD), {1: WORD}]
    wrong += [(factor, WORD) for factor in things() + [[1], (1,), "1"]]
    return wrong + [(1, word) for word in things() if not isinstance(word, Word)] + [(True, WORD), (False, WORD)]


class Making(RowTest):

    def test_what_is_no_list(self):
        for wrong in no_lists():
            with self.subTest(wrong=wrong):
                self.refuses(InvalidTerms, wrong, Claim, wrong)
                self.refuses(InvalidTerms, wrong, Claim, terms=wrong)

    def test_the_first_wrong_item_is_kept(self):
        for wrong in no_terms():
            with self.subTest(wrong=wrong):
                self.refuses(InvalidTerms, wrong, Claim, [wrong])
                self.refuses(InvalidTerms, wrong, Claim, [(1, WORD), wrong, None])
                self.refuses(InvalidTerms, wrong, Claim, ((1, WORD), (2, WORD), wrong, [1, WORD], 5))

    def test_a_term_alone_is_a_list_of_wrong_items(self):
        number = GREAT
        self.refuses(InvalidTerms, number, Claim, (number, WORD))
        self.assertIsInstance(self.raised(Claim, [None]), ValueError)


def words_too_far(k):
    """Claims that do not fit a pattern with k arrows, each with the first of their words that does not."""
    far, farther = Word.whole(k + 1), Word.read(f"left(1@{k + 1})")
    return [
        (Claim([(1, far)]), far), (Claim([(0, farther)]), farther), (Claim([(1, WORD), (2, far), (3, farther)]), far),
        (Claim([(1, WORD), (0, farther), (3, far), (1, WORD)]), farther),
    ]


class Fitting(RowTest):

    def test_patterns(self):
        for claim in (Claim([]), Claim([(1, WORD)]), Claim([(1, Word.whole(6))])):
            for call in (claim.fits, claim.on_bars):
                for wrong in wrong_patterns():
                    with self.subTest(wrong=wrong):
                        self.refuses(InvalidPattern, wrong, call, wrong)
                        self.refuses(InvalidPattern, wrong, call, pattern=wrong)

    def test_words_that_do_not_fit(self):
        for pattern in ("", "<", "><>", ">>>>>"):
            k = len(pattern)
            for claim, word in words_too_far(k):
                self.assertIs(claim.fits(pattern), False)
                self.refuses(NotFitting, word, claim.on_bars, pattern)
                self.refuses(NotFitting, word, claim.on, bar_row(pattern, 3, (0, k)))
                self.refuses(NotFitting, word, claim.on, row=Row(pattern, 3, [0] * (k + 1), [[]] * k))
                self.refuses(NotFitting, word, claim.total, pattern, {(0, k): 1})
                self.refuses(NotFitting, word, refuting, pattern, claim)
                self.refuses(NotFitting, word, holds, pattern=pattern, claim=claim)

    def test_totals_in_their_order(self):
        for claim in (Claim([]), Claim([(1, WORD)])):
            for pattern in ("", "<", "><>"):
                self.refuses_in_order(claim.total, {"pattern": pattern, "numbers": {(0, 0): 1}}, [
                    ("pattern", InvalidPattern, wrong_patterns()),
                    ("numbers", InvalidNumbers, wrong_numbers(len(pattern))),
                ])

    def test_words_come_behind_numbers(self):
        for pattern in ("", "<", "><>"):
            for claim, _ in words_too_far(len(pattern)):
                for wrong in wrong_numbers(len(pattern)):
                    self.refuses(InvalidNumbers, wrong, claim.total, pattern, wrong)
                for wrong in wrong_patterns():
                    self.refuses(InvalidPattern, wrong, claim.total, wrong, {})

    def test_functions_of_a_claim(self):
        for claim in (Claim([]), Claim([(1, WORD)]), Claim([(-1, Word.whole(6))])):
            for wrong in wrong_patterns():
                for call in (refuting, holds):
                    self.refuses(InvalidPattern, wrong, call, wrong, claim)
                self.refuses(InvalidPattern, wrong, likewise, wrong, claim, Claim([(1, Word.whole(5))]))
                self.refuses(InvalidPattern, wrong, likewise, pattern=wrong, one=Claim([]), other=claim)

    def test_words_of_two_claims(self):
        for pattern in ("", "<", "><>"):
            good = Claim([(1, WORD)])
            for one, first in words_too_far(len(pattern)):
                self.refuses(NotFitting, first, likewise, pattern, one, good)
                self.refuses(NotFitting, first, likewise, pattern, good, one)
                self.refuses(NotFitting, first, likewise, pattern, Claim([]), other=one)
                for other, _ in words_too_far(len(pattern)):
                    self.refuses(NotFitting, first, likewise, pattern, one, other)


class Bars(RowTest):

    def test_claims_of_bars(self):
        for pattern in ("", "<", "><>", "<<<<<<"):
            self.refuses_in_order(bar_claim, {"pattern": pattern, "bar": (0, len(pattern))}, [
                ("pattern", InvalidPattern, wrong_patterns()), ("bar", InvalidBar, wrong_bars(len(pattern))),
            ])


if __name__ == "__main__":
    unittest.main()
