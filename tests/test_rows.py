"""Points 30 to 35: patterns, bars and rows, with right inputs."""

import unittest

from helps import (
    GREAT, PRIMES, RowTest, all_bars, all_patterns, all_vectors, ends_of, lead, sequence, some_matrix, some_row,
    some_rows, things, wrong_patterns,
)
from maprows.errors import InvalidText
from maprows.rows import Row, bar_row, bars, is_pattern, read_row, row_with


class Patterns(RowTest):

    def test_patterns(self):
        for pattern in all_patterns(6):
            self.assertIs(is_pattern(pattern), True)
        self.assertEqual(len(all_patterns(6)), 127)

    def test_all_else(self):
        for value in wrong_patterns():
            with self.subTest(value=value):
                self.assertIs(is_pattern(value), False)
                self.assertIs(is_pattern(value=value), False)

    def test_bars(self):
        self.same(bars(""), [(0, 0)])
        self.same(bars("<"), [(0, 0), (0, 1), (1, 1)])
        self.same(bars(pattern="<>"), [(0, 0), (0, 1), (0, 2), (1, 1), (1, 2), (2, 2)])
        for pattern in all_patterns(6):
            found = bars(pattern)
            self.same(found, sorted(all_bars(len(pattern))))
            self.assertEqual(len(found), (len(pattern) + 1) * (len(pattern) + 2) // 2)
            found.clear()
            self.same(bars(pattern), sorted(all_bars(len(pattern))))


class Making(RowTest):

    def test_what_it_tells(self):
        row = Row("><", 5, [2, 1, 1], [[(1,), (4,)], [(7,)]])
        self.same([row.pattern, row.prime, row.sizes, len(row)], ["><", 5, (2, 1, 1), 3])
        self.same(row.maps(), [[(1,), (4,)], [(2,)]])
        self.same([row.matrix(0), row.matrix(1), row.matrix(index=1)], [[(1,), (4,)], [(2,)], [(2,)]])
        self.same(Row(pattern="", prime=2, sizes=[0], maps=[]).maps(), [])

    def test_heights_and_widths_follow_the_arrows(self):
        self.same(Row(">", 3, (2, 3), [[(1, 2, 0)] * 2]).matrix(0), [(1, 2, 0), (1, 2, 0)])
        self.same(Row("<", 3, (2, 3), [[(1, 2)] * 3]).matrix(0), [(1, 2), (1, 2), (1, 2)])

    def test_lists_and_tuples(self):
        kinds = [Row("><", 5, sizes, maps) for sizes in ([1, 2, 1], (1, 2, 1)) for maps in (
            [[(1, 2)], [(3, 4)]], ([[1, 2]], ((3, 4),)), [((1, 2),), [[3, 4]]], (([1, 2],), [(3, 4)]),
        )]
        for row in kinds:
            self.assertTrue(row == kinds[0])
            self.same([row.sizes, row.maps()], [(1, 2, 1), [[(1, 2)], [(3, 4)]]])

    def test_items_count_modulo_the_prime(self):
        for prime in PRIMES:
            for item in (GREAT, -GREAT, -1, prime, -prime, 0, 1, prime * 10 ** 20 + 1):
                row = Row("<", prime, [1, 2], [[(item,), [item + prime]]])
                self.same(row.maps(), [[(item % prime,), (item % prime,)]])

    def test_all_patterns_and_sizes(self):
        numbers = sequence(31)
        for pattern in all_patterns(6):
            sizes = [next(numbers) % 7 for _ in range(len(pattern) + 1)]
            maps = []
            for index in range(len(pattern)):
                start, goal = ends_of(pattern, index)
                maps.append(some_matrix(numbers, sizes[start], sizes[goal], -30, 30))
            row = Row(pattern, 7, sizes, maps)
            self.same([row.pattern, row.prime, row.sizes, len(row)], [pattern, 7, tuple(sizes), len(pattern) + 1])
            expected = [[tuple(item % 7 for item in vector) for vector in matrix] for matrix in maps]
            self.same(row.maps(), expected)
            self.same([row.matrix(index) for index in range(len(pattern))], expected)

    def test_sizes_of_zero_and_of_six(self):
        self.same(Row(">>", 2, [0, 0, 6], [[], []]).maps(), [[], []])
        self.same(Row("<<", 2, [0, 0, 2], [[], [(), []]]).maps(), [[], [(), ()]])
        self.same(Row("><", 2, [3, 0, 1], [[[], (), []], ((),)]).maps(), [[(), (), ()], [()]])
        six = [[1] * 6] * 6
        row = Row("><><><", 13, [6] * 7, [six] * 6)
        self.same([row.sizes, row.maps()], [(6,) * 7, [[(1,) * 6] * 6] * 6])

    def test_what_it_was_made_with_stays(self):
        sizes, maps = [1, 2], [[[1, 2]]]
        row = self.keeps_arguments(Row, ">", 5, sizes, maps)
        sizes[0] = 6
        maps[0][0][0] = 4
        maps[0].append([3, 3])
        maps.append(None)
        self.same([row.sizes, row.maps(), row.text()], [(1, 2), [[(1, 2)]], "5: 1 > 2; 1 2"])

    def test_what_it_tells_may_be_changed(self):
        row = Row("><", 5, [1, 2, 1], [[(1, 2)], [(3, 4)]])
        told = row.maps()
        told[0].append((0, 0))
        told[1][0] = None
        told.clear()
        row.matrix(0).clear()
        self.same([row.maps(), row.matrix(0)], [[[(1, 2)], [(3, 4)]], [(1, 2)]])

    def test_what_it_tells_cannot_be_set(self):
        row = Row("", 5, [1], [])
        for name in ("pattern", "prime", "sizes"):
            with self.assertRaises(AttributeError):
                setattr(row, name, None)

    def test_equality(self):
        rows = [
            Row("><", 5, [1, 1, 1], [[(1,)], [(3,)]]), Row("<>", 5, [1, 1, 1], [[(1,)], [(3,)]]),
            Row("><", 7, [1, 1, 1], [[(1,)], [(3,)]]), Row("><", 5, [1, 1, 1], [[(1,)], [(2,)]]),
            Row(">", 5, [1, 1], [[(1,)]]), Row("><", 5, [0, 1, 1], [[], [(3,)]]), Row("", 5, [1], []),
            Row(">", 5, [0, 0], [[]]), Row(">", 5, [0, 1], [[]]), Row(">", 5, [1, 0], [[()]]), Row("", 5, [0], []),
        ]
        for at, one in enumerate(rows):
            for index, other in enumerate(rows):
                self.assertIs(one == other, at == index)
                self.assertIs(one != other, at != index)
        self.assertTrue(rows[0] == Row("><", 5, (1, 1, 1), ([[6]], [(-2,)])))
        for thing in things() + ["5: 1", 5, [], rows[0].maps(), rows[0].text()]:
            self.assertFalse(rows[0] == thing)
            self.assertTrue(rows[0] != thing)


class Beside(RowTest):

    def test_an_example(self):
        one = Row("><", 5, [1, 2, 1], [[(1, 2)], [(3, 4)]])
        other = Row("><", 5, [2, 0, 1], [[(), ()], [()]])
        self.same((one + other).text(), "5: 3 > 2 < 2; 1 2, 0 0, 0 0; 3 4, 0 0")
        self.same((other + one).text(), "5: 3 > 2 < 2; 0 0, 0 0, 1 2; 0 0, 3 4")

    def test_vectors_of_the_one_ahead_of_those_of_the_other(self):
        numbers = sequence(32)
        for at in range(150):
            prime, k = PRIMES[at % 6], at % 4
            pattern = "".join("<>"[next(numbers) % 2] for _ in range(k))
            one = some_row(numbers, pattern, prime, [next(numbers) % 4 for _ in range(k + 1)])
            other = some_row(numbers, pattern, prime, [next(numbers) % 4 for _ in range(k + 1)])
            both = self.keeps_arguments(lambda one, other: one + other, one, other)
            self.same([both.pattern, both.prime], [pattern, prime])
            self.same(both.sizes, tuple(size + more for size, more in zip(one.sizes, other.sizes)))
            for index in range(k):
                start, goal = ends_of(pattern, index)
                for vector in some_matrix(numbers, 5, both.sizes[start]):
                    first, second = vector[:one.sizes[start]], vector[one.sizes[start]:]
                    expected = lead(prime, first, one.matrix(index), one.sizes[goal])
                    expected += lead(prime, second, other.matrix(index), other.sizes[goal])
                    self.same(lead(prime, vector, both.matrix(index), both.sizes[goal]), expected)

    def test_up_to_six(self):
        one, other = Row(">", 2, [6, 3], [[(1, 0, 1)] * 6]), Row(">", 2, [0, 3], [[]])
        self.same((one + other).sizes, (6, 6))
        self.same((one + other).matrix(0), [(1, 0, 1, 0, 0, 0)] * 6)


class Parts(RowTest):

    def test_part(self):
        row = Row("><<", 5, [1, 2, 1, 0], [[(1, 2)], [(3, 4)], []])
        self.same(row.part(0, 3).text(), row.text())
        self.same(row.part(first=1, last=2).text(), "5: 2 < 1; 3 4")
        self.same([row.part(at, at).text() for at in range(4)], ["5: 1", "5: 2", "5: 1", "5: 0"])
        self.same(row.part(2, 3).maps(), [[]])

    def test_parts_of_many_rows(self):
        for row in some_rows(33, 60, 6, 6):
            k = len(row.pattern)
            for first, last in all_bars(k):
                part = row.part(first, last)
                self.same([part.pattern, part.prime], [row.pattern[first:last], row.prime])
                self.same(part.sizes, row.sizes[first:last + 1])
                self.same(part.maps(), row.maps()[first:last])

    def test_turned(self):
        row = Row("><<", 5, [1, 2, 1, 3], [[(1, 2)], [(3, 4)], [(1,), (2,), (3,)]])
        self.same(row.turned().text(), "5: 3 > 1 > 2 < 1; 1, 2, 3; 3 4; 1 2")
        for row in some_rows(34, 60, 6, 6):
            turned, k = row.turned(), len(row.pattern)
            self.same(turned.sizes, row.sizes[::-1])
            self.same([turned.prime, turned.maps()], [row.prime, row.maps()[::-1]])
            for index in range(k):
                start, goal = ends_of(row.pattern, index)
                self.same(ends_of(turned.pattern, k - 1 - index), (k - start, k - goal))
            self.assertTrue(turned.turned() == row)

    def test_dual(self):
        row = Row("><", 5, [1, 2, 0], [[(1, 2)], []])
        self.same(row.dual().text(), "5: 1 < 2 > 0; 1, 2; -")
        self.same(row.dual().maps(), [[(1,), (2,)], [(), ()]])
        for row in some_rows(35, 60, 6, 6):
            dual = row.dual()
            self.same([dual.sizes, dual.prime], [row.sizes, row.prime])
            for index in range(len(row.pattern)):
                start, goal = ends_of(row.pattern, index)
                self.same(ends_of(dual.pattern, index), (goal, start))
                matrix, exchanged = row.matrix(index), dual.matrix(index)
                self.same(exchanged, [
                    tuple(matrix[at][column] for at in range(row.sizes[start])) for column in range(row.sizes[goal])
                ])
            self.assertTrue(dual.dual() == row)


class BarsAsRows(RowTest):

    def test_row_of_a_bar(self):
        self.same(bar_row("><", 3, (1, 2)).maps(), [[], [(1,)]])
        self.same(bar_row("<>", 3, (1, 2)).maps(), [[()], [(1,)]])
        self.same(bar_row(pattern="", prime=2, bar=(0, 0)).text(), "2: 1")
        for pattern in all_patterns(4) + ["><><<>", ">>>>>>", "<<<<<<"]:
            for first, last in all_bars(len(pattern)):
                row = bar_row(pattern, 11, (first, last))
                self.same([row.pattern, row.prime], [pattern, 11])
                self.same(row.sizes, tuple(int(first <= place <= last) for place in range(len(pattern) + 1)))
                for index in range(len(pattern)):
                    start, goal = ends_of(pattern, index)
                    inner = first <= index and index + 1 <= last
                    self.same(row.matrix(index), [(1,)] if inner else [(0,) * row.sizes[goal]] * row.sizes[start])

    def test_row_with_numbers(self):
        numbers = {(0, 1): 2, (1, 2): 1, (1, 1): 0, (0, 0): 1}
        self.same(row_with("><", 5, numbers).text(), "5: 3 > 3 < 1; 0 0 0, 1 0 0, 0 1 0; 0 0 1")
        self.same(row_with(pattern="><", prime=5, numbers={}).text(), "5: 0 > 0 < 0; -; -")
        self.same(row_with("", 13, {(0, 0): 6}).text(), "13: 6")

    def test_the_order_of_the_keys_is_nothing(self):
        numbers = {(0, 0): 1, (0, 1): 2, (1, 1): 1, (1, 2): 1, (2, 2): 2}
        for arrows in ("><", "<<", "<>", ">>"):
            again = row_with(arrows, 5, {bar: numbers[bar] for bar in sorted(numbers, reverse=True)})
            self.assertTrue(self.keeps_arguments(row_with, arrows, 5, numbers) == again)

    def test_row_with_is_a_sum_of_rows_of_bars(self):
        values = sequence(36)
        for pattern in all_patterns(3) + ["><<>", "><><<>"]:
            k = len(pattern)
            for at in range(6):
                told, row = {}, Row(pattern, 7, [0] * (k + 1), [[]] * k)
                for bar in all_bars(k):
                    number = next(values) % 3 if at > 0 else int(bar == (0, k))
                    if max(row.sizes[bar[0]:bar[1] + 1]) + number <= 6:
                        told[bar] = number
                        for _ in range(number):
                            row = row + bar_row(pattern, 7, bar)
                self.same(row_with(pattern, 7, told).text(), row.text())

    def test_sizes_up_to_six(self):
        self.same(row_with("<", 2, {(0, 1): 6}).matrix(0), [tuple(int(at == to) for to in range(6)) for at in range(6)])
        self.same(row_with("<", 2, {(0, 0): 6, (1, 1): 6}).sizes, (6, 6))


class Texts(RowTest):

    def test_texts(self):
        row = Row("><", 5, [2, 1, 0], [[(1,), (4,)], []])
        self.same(row.text(), "5: 2 > 1 < 0; 1, 4; -")
        self.same(Row("<>", 13, [2, 2, 0], [[(12, 0), (-3, 14)], [(), ()]]).text(), "13: 2 < 2 > 0; 12 0, 10 1; -")
        self.same(Row("", 2, [0], []).text(), "2: 0")
        self.same(Row(">", 2, [0, 0], [[]]).text(), "2: 0 > 0; -")

    def test_texts_are_read(self):
        for row in some_rows(37, 300, 6, 6):
            text = row.text()
            found = read_row(text)
            self.assertTrue(found == row)
            self.same([found.maps(), found.sizes, found.pattern, found.prime, found.text()], [
                row.maps(), row.sizes, row.pattern, row.prime, text,
            ])
        self.same(read_row(text="7: 3").sizes, (3,))

    def test_a_long_text_is_read(self):
        row = Row(">>>>>>", 13, [6] * 7, [[(12,) * 6] * 6] * 6)
        self.assertTrue(read_row(row.text()) == row)
        self.assertEqual(len(row.text()), 713)

    def test_all_else_is_refused(self):
        wrong = things() + [0, 5, [], ["5: 1"], ("5: 1",), {"5: 1": "5: 1"}]
        wrong += [" 5: 1", "5: 1 ", "5:1", "5 : 1", "5:  1", "5", "5: ", "5:", ": 1", "1: 1", "4: 1", "05: 1"]
        wrong += ["+5: 1", "17: 1", "5: 7", "5: -1", "5: 01", "5: +1", "5: 1;", "5: 1; ", "5: 1; -", "5: 1; 1"]
        wrong += ["5: 1 >", "5: 1 > ", "5: 1 > 1", "5: 1 > 1;", "5: 1 > 1; ", "5: 1 > 1;1", "5: 1 > 1; 5"]
        wrong += ["5: 1 > 1; 01", "5: 1 > 1; -1", "5: 1 > 1; +1", "5: 1 > 1; 1 1", "5: 1 > 1; 1, 1", "5: 1 > 1; -"]
        wrong += ["5: 1 > 1; 1;", "5: 1 > 1; 1; 1", "5: 1 > 1; 1; -", "5: 1  > 1; 1", "5: 1 >  1; 1", "5: 1> 1; 1"]
        wrong += ["5: 1 >1; 1", "5: 1 > 1 ; 1", "5: 1 > 1;  1", "5: 1 > 1; 1 ", "5: 1 = 1; 1", "5: 1 >> 1; 1"]
        wrong += ["5: 1 > 1 < 1; 1", "5: 1 1", "5: 1 > 2; 1  2", "5: 1 > 2; 1,2", "5: 1 > 2; 1, 2"]
        wrong += ["5: 2 > 1; 1 2", "5: 2 > 1; 1,2", "5: 2 > 1; 1 , 2", "5: 2 > 1; 1,  2", "5: 2 < 1; 1, 2"]
        wrong += ["5: 1 > 0; ", "5: 1 > 0;", "5: 1 > 0", "5: 1 > 0; 0", "5: 2 > 0; -, -", "5: 0 > 0; ,"]
        wrong += ["5: 0 > 2; 0 0", "5: 1\n", "\n5: 1", "5: 1 > 1; 1\n", "5: 1\t> 1; 1", "5; 1", "5: 1: 1", "5: a"]
        wrong += ["3: 1 > 1; 3", "13: 1 > 1; 13", "2: 1 > 1; 2", "5: 1 > 1; a", "a: 1", "(5: 1)", "5: 1 > 1; (1,)"]
        wrong += ["5: 10", "2: 0 > 0 > 0 > 0 > 0 > 0 > 0 > 0; -; -; -; -; -; -; -", "5: " + "1" * 900]
        wrong += ["5: 1" + "; -" * 300, ";" * 1000]
        for text in wrong:
            with self.subTest(text=text):
                self.refuses(InvalidText, text, read_row, text)

    def test_no_other_text_near_a_right_one_is_read(self):
        for row in some_rows(38, 12, 3, 3):
            text = row.text()
            for at in range(len(text) + 1):
                for put in [text[:at] + more + text[at + gone:] for more in ("", " ", "0", "1", "-", ",", ";", ">", "+")
                            for gone in (0, 1)]:
                    try:
                        self.assertEqual(read_row(put).text(), put)
                    except InvalidText as error:
                        self.assertIs(error.value, put)
                        self.assertNotEqual(put, text)

    def test_great_numbers_are_refused(self):
        for text in ("5: 1 > 1; " + "1" * 990, "9" * 900 + ": 1", "5: 1 > " + "0" * 900 + "; -"):
            self.refuses(InvalidText, text, read_row, text)


class OneByOne(RowTest):

    def test_all_rows_of_one_arrow_have_texts_of_their_own(self):
        texts = set()
        for pattern in "<>":
            for height in range(3):
                for width in range(3):
                    sizes = [height, width] if pattern == ">" else [width, height]
                    for items in all_vectors(2, height * width):
                        matrix = [items[at * width:(at + 1) * width] for at in range(height)]
                        texts.add(Row(pattern, 2, sizes, [matrix]).text())
        self.assertEqual(len(texts), 2 * (5 * 1 + 2 + 2 * 4 + 16))


if __name__ == "__main__":
    unittest.main()
