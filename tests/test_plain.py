"""Points 60 to 64: what words mean in all rows of a pattern, and plain words."""

import itertools
import math
import unittest

from helps import (
    GREAT, RowTest, all_bars, all_patterns, sequence, shape, small_words, some_rows, some_word, things, wrong_patterns,
    wrong_places,
)
from maprows.errors import InvalidNumber, InvalidPattern, InvalidPlace, NotFitting, UnlikePlaces
from maprows.plain import (
    births, breach, ends, marks, nth_plain, parting, plain, plain_count, plain_number, plain_words, same, stair, within,
)
from maprows.rows import bar_row
from maprows.words import Word, value


def words_within(place, k):
    """Words of a place that fit a pattern with k arrows: all small ones and some greater ones."""
    numbers = sequence(71 + place + 10 * k)
    words = small_words(place, 1, 3, k) + small_words(place, 2, 1, k)
    return words + [some_word(numbers, place, leaves, steps, k) for leaves in (3, 5, 9) for steps in (4, 12)]


def patterns_and_places(most):
    return [(pattern, place) for pattern in all_patterns(most) for place in range(len(pattern) + 1)]


def births_told(pattern, place):
    order = [0]
    for q in range(1, place + 1):
        order.insert(len(order) if pattern[q - 1] == ">" else 0, q)
    return order


def ends_told(pattern, place):
    order = [len(pattern)]
    for q in reversed(range(place, len(pattern))):
        order.insert(len(order) if pattern[q] == "<" else 0, q)
    return order


def all_stairs(pattern, place):
    """All tuples with an integer for each birth that never rise and are at most the number of ends, ascending."""
    found = itertools.product(range(len(pattern) - place + 2), repeat=place + 1)
    return [steps for steps in found if list(steps) == sorted(steps, reverse=True)]


class Marks(RowTest):

    def test_marks_are_dimensions_in_the_rows_of_bars(self):
        for pattern, place in patterns_and_places(3):
            rows = {bar: bar_row(pattern, 2, bar) for bar in all_bars(len(pattern))}
            for word in words_within(place, len(pattern)):
                found = marks(pattern, word)
                self.assertEqual(found, {bar: len(value(word, row)) for bar, row in rows.items()})
                for number in found.values():
                    self.assertIs(type(number), int)

    def test_words_of_the_greatest_size(self):
        numbers = sequence(72)
        for pattern in all_patterns(6, 6)[::7]:
            word = some_word(numbers, next(numbers) % 7, 24, 40)
            found = marks(pattern=pattern, word=word)
            for bar in all_bars(6):
                self.assertEqual(found[bar], len(value(word, bar_row(pattern, 13, bar))))
            self.assertEqual(len(found), 28)

    def test_a_returned_dict_may_be_changed(self):
        word = Word.whole(1)
        found = marks("><", word)
        found.clear()
        self.assertEqual(marks("><", word), {(0, 0): 0, (0, 1): 1, (0, 2): 1, (1, 1): 1, (1, 2): 1, (2, 2): 0})
        self.same(word.text(), "1@1")


class Comparing(RowTest):

    def test_pairs_of_words(self):
        seen = {True: 0, False: 0}
        for pattern, place in patterns_and_places(3):
            words = words_within(place, len(pattern))
            bars = all_bars(len(pattern))
            told = {word.text(): marks(pattern, word) for word in words}
            for one, other in list(itertools.product(words[::3], words[1::5])) + [(word, word) for word in words[::9]]:
                first, second = told[one.text()], told[other.text()]
                unlike = [bar for bar in bars if first[bar] != second[bar]]
                above = [bar for bar in bars if first[bar] > second[bar]]
                self.same(parting(pattern, one, other), unlike[0] if unlike else None)
                self.same(breach(pattern, one, other), above[0] if above else None)
                self.assertIs(same(pattern, one, other), not unlike)
                self.assertIs(within(pattern, one, other), not above)
                seen[not above] += 1
        self.assertGreater(min(seen.values()), 500)

    def test_in_all_rows(self):
        numbers = sequence(73)
        for row in some_rows(74, 120, 5, 5):
            pattern = row.pattern
            place = next(numbers) % (len(pattern) + 1)
            words = [some_word(numbers, place, 1 + at, 2 + 2 * at, len(pattern)) for at in range(5)]
            for one, other in itertools.product(words, repeat=2):
                if same(pattern, one, other):
                    self.assertTrue(value(one, row) == value(other, row))
                else:
                    bar = bar_row(pattern, row.prime, parting(pattern, one, other))
                    self.assertFalse(value(one, bar) == value(other, bar))
                if within(pattern, one, other):
                    self.assertTrue(value(one, row).lies_in(value(other, row)))
                else:
                    bar = bar_row(pattern, row.prime, breach(pattern, one, other))
                    self.assertFalse(value(one, bar).lies_in(value(other, bar)))

    def test_names_of_the_arguments(self):
        one, other = Word.whole(0), Word.none(0)
        self.same([same(pattern=">", one=one, other=other), within(pattern=">", one=other, other=one)], [False, True])
        self.same([parting(pattern="", one=one, other=other), breach(pattern="", one=one, other=other)], [(0, 0)] * 2)
        self.assertIs(breach("", other, one), None)

    def test_the_modular_law_and_its_limits(self):
        # Sums and meets of words of one place satisfy the laws of sums and meets of marks.
        a, b, c = Word.whole(0).right(), Word.whole(2).left(), Word.read("right(left(left(1@2)))")
        for pattern in all_patterns(2, 2):
            self.assertIs(same(pattern, a & (b + c), (a & b) + (a & c)), True)
            self.assertIs(same(pattern, (a + b) & (a + c), a + (b & c)), True)


class Stairs(RowTest):

    def test_births_and_ends(self):
        self.same([births("><>", 2), ends("><>", 1)], [[2, 0, 1], [2, 3, 1]])
        for pattern, place in patterns_and_places(6):
            self.same(births(pattern, place), births_told(pattern, place))
            self.same(ends(pattern=pattern, place=place), ends_told(pattern, place))
        births(">>", 2).clear()
        ends(">>", 0).clear()
        self.same([births(">>", 2), ends(">>", 0)], [[0, 1, 2], [0, 1, 2]])

    def test_marks_go_down_in_births_and_ends(self):
        for pattern, place in patterns_and_places(3):
            starts, stops = births(pattern, place), ends(pattern, place)
            for word in words_within(place, len(pattern)):
                told = marks(pattern, word)
                for at, to in itertools.product(range(len(starts)), range(len(stops))):
                    if told[starts[at], stops[to]] == 1:
                        for lower, inner in itertools.product(range(at + 1), range(to + 1)):
                            self.assertEqual(told[starts[lower], stops[inner]], 1)

    def test_stairs_count_ends(self):
        for pattern, place in patterns_and_places(3):
            starts, stops = births(pattern, place), ends(pattern, place)
            for word in words_within(place, len(pattern)):
                told = marks(pattern, word)
                found = stair(pattern, word)
                self.same(found, tuple(sum(told[birth, end] for end in stops) for birth in starts))
                self.assertEqual(list(found), sorted(found, reverse=True))
                self.assertLessEqual(max(found), len(stops))
        self.same(stair(pattern="><", word=Word.whole(1)), (2, 2))
        self.same([stair("", Word.whole(0)), stair("", Word.none(0))], [(1,), (0,)])


class Plain(RowTest):

    def test_plain_words_mean_what_words_mean(self):
        for pattern, place in patterns_and_places(3):
            found = {}
            for word in words_within(place, len(pattern)):
                told = plain(pattern, word)
                self.assertIs(type(told), Word)
                self.assertEqual(told.place, place)
                self.same(stair(pattern, told), stair(pattern, word))
                self.assertIs(same(pattern, told, word), True)
                self.assertEqual(shape(found.setdefault(stair(pattern, word), told)), shape(told))
                self.assertEqual(shape(plain(pattern, told)), shape(told))
                self.assertEqual(shape(Word.read(told.text())), shape(told))

    def test_all_plain_words_of_small_patterns(self):
        for pattern, place in patterns_and_places(3):
            self.are_all(pattern, place)

    def test_all_plain_words_of_great_patterns(self):
        for pattern in all_patterns(6, 6)[::9] + all_patterns(5, 5)[::6]:
            for place in range(len(pattern) + 1):
                self.are_all(pattern, place)

    def are_all(self, pattern, place):
        k = len(pattern)
        count = math.factorial(k + 2) // (math.factorial(place + 1) * math.factorial(k + 1 - place))
        words = list(plain_words(pattern, place))
        self.same(plain_count(pattern, place), count)
        self.assertEqual(len({word.text() for word in words}), count)
        self.same([stair(pattern, word) for word in words], all_stairs(pattern, place))
        for number, word in enumerate(words):
            self.assertEqual(word.place, place)
            self.assertEqual(shape(nth_plain(pattern, place, number)), shape(word))
            self.assertEqual(shape(plain(pattern, word)), shape(word))
            self.same(plain_number(pattern, word), number)

    def test_names_of_the_arguments(self):
        self.same(plain_count(pattern="><>><<", place=3), 70)
        self.same(nth_plain(pattern="><", place=0, number=0).place, 0)
        self.same(plain_number(pattern="><", word=Word.none(1)), 0)
        self.same(stair("><", plain(pattern="><", word=Word.none(1))), (0, 0))
        self.assertEqual(len(list(plain_words(pattern="><", place=1))), plain_count("><", 1))

    def test_plain_words_are_the_same_in_all_rows(self):
        numbers = sequence(75)
        for row in some_rows(76, 80, 6, 6):
            k = len(row.pattern)
            for leaves, steps in ((2, 4), (6, 10), (24, 40)):
                word = some_word(numbers, next(numbers) % (k + 1), leaves, steps, k)
                self.assertTrue(value(plain(row.pattern, word), row) == value(word, row))


def wrong_words(pattern):
    """Words that do not fit a pattern, and what is no word."""
    k = len(pattern)
    wrong = [Word.whole(place) for place in range(k + 1, 7)]
    if k < 6:
        wrong += [Word.read("left(1@" + str(k + 1) + ")"), Word.whole(k) & Word.none(k + 1).left()]
    return wrong + [thing for thing in things() if not isinstance(thing, Word)] + [0, 1, GREAT, [], ["1@0"], "1@0"]


class Wrong(RowTest):

    def test_functions_of_one_word(self):
        for pattern in ("", "<", "><<", ">>>>>>"):
            for call in (marks, stair, plain, plain_number):
                self.refuses_in_order(call, {"pattern": pattern, "word": Word.whole(0)}, [
                    ("pattern", InvalidPattern, wrong_patterns()), ("word", NotFitting, wrong_words(pattern)),
                ])

    def test_functions_of_two_words(self):
        for pattern in ("", "<", "><<"):
            for call in (same, within, parting, breach):
                self.refuses_in_order(call, {"pattern": pattern, "one": Word.whole(0), "other": Word.none(0)}, [
                    ("pattern", InvalidPattern, wrong_patterns()),
                    ("one", NotFitting, wrong_words(pattern)),
                    ("other", NotFitting, wrong_words(pattern)),
                ])

    def test_unlike_places_come_last(self):
        for call in (same, within, parting, breach):
            for one, other in itertools.permutations(range(4), 2):
                self.refuses_plainly(UnlikePlaces, call, "><<", Word.whole(one), Word.none(other))
            for wrong in wrong_patterns():
                self.refuses(InvalidPattern, wrong, call, wrong, Word.whole(0), Word.whole(1))
            for one, other in ((0, 4), (5, 4), (5, 0)):
                first, second = Word.whole(one), Word.none(other)
                self.refuses(NotFitting, first if one > 3 else second, call, "><<", first, second)

    def test_functions_of_a_place(self):
        for pattern in ("", "<", "><<", ">>>>>>"):
            for call in (births, ends, plain_count, lambda pattern, place: list(plain_words(pattern, place))):
                self.refuses_in_order(call, {"pattern": pattern, "place": 0}, [
                    ("pattern", InvalidPattern, wrong_patterns()),
                    ("place", InvalidPlace, wrong_places(0, len(pattern))),
                ])

    def test_numbers_of_plain_words(self):
        for pattern, place in (("", 0), ("<", 0), ("<", 1), ("><<", 2), (">>>>>>", 3)):
            count = plain_count(pattern, place)
            self.refuses_in_order(nth_plain, {"pattern": pattern, "place": place, "number": count - 1}, [
                ("pattern", InvalidPattern, wrong_patterns()),
                ("place", InvalidPlace, wrong_places(0, len(pattern))),
                ("number", InvalidNumber, wrong_places(0, count - 1)),
            ])


if __name__ == "__main__":
    unittest.main()
