"""The examples of the document's interface, as they stand there."""

import unittest

from helps import RowTest, check_examples

RESTS = """
    >>> from maprows.rests import exchanged, inverse, is_integer, is_matrix, is_prime, joined, led
    >>> [is_integer(3, 0, 2), is_integer(True), is_prime(13), is_prime(9), inverse(3, 7), inverse(-1, 5)]
    [False, False, True, False, 5, 4]
    >>> [led(5, (1, 2), [(1, 0, 3), (0, 4, 1)], 3), led(5, (), [], 2), joined(5, [(1, 2)], [(1, 0), (3, 1)], 2), exchanged(3, [(1, 2, 4)], 3)]
    [(1, 3, 0), (0, 0), [(2, 2)], [(1,), (2,), (1,)]]
    >>> [is_matrix([(1, 2), [3, 4]], 2, 2), is_matrix([], 0, 3), is_matrix([(1,)], 1, 2)]
    [True, True, False]
    >>> inverse(10, 5)
    raises NoInverse(10)
"""

SPACES = """
    >>> from maprows.spaces import Space, extension, factors_for, inverse_of
    >>> one = Space(5, 3, [(2, 4, 1), (1, 2, 3)])
    >>> [one.basis(), len(one), (1, 2, 8) in one, one.rest((1, 1, 1)), (one & Space(5, 3, [(0, 1, 0)])) == Space.nothing(5, 3)]
    [[(1, 2, 3)], 1, True, (0, 4, 3), True]
    >>> [one.image([(1, 0), (0, 1), (1, 1)], 2).basis(), Space.nothing(5, 2).back([(1, 0), (0, 1), (1, 1)]).basis()]
    [[(1, 0)], [(1, 1, 4)]]
    >>> [len(extension(one, one + Space(5, 3, [(0, 0, 2)]))), factors_for(5, [(1, 1), (0, 2)], (3, 2)), inverse_of(5, [(1, 1), (0, 2)])]
    [1, [3, 2], [(1, 2), (0, 3)]]
    >>> Space(4, 1)
    raises InvalidPrime(4)
"""

ROWS = """
    >>> from maprows.rows import Row, bar_row, bars, read_row, row_with
    >>> row = Row("><", 5, [2, 1, 1], [[(1,), (4,)], [(7,)]])
    >>> [bars(">"), row.text(), row.matrix(1), len(row), read_row("5: 2 > 1 < 1; 1, 4; 2") == row]
    [[(0, 0), (0, 1), (1, 1)], '5: 2 > 1 < 1; 1, 4; 2', [(2,)], 3, True]
    >>> [row.part(1, 2).text(), row.turned().text(), row.dual().text(), (row + row).sizes]
    ['5: 1 < 1; 2', '5: 1 > 1 < 2; 2; 1, 4', '5: 2 < 1 > 1; 1 4; 2', (4, 2, 2)]
    >>> [bar_row("><", 3, (1, 2)).text(), row_with(">", 2, {(0, 1): 1, (0, 0): 1}).text()]
    ['3: 0 > 1 < 1; -; 1', '2: 2 > 1; 0, 1']
    >>> Row(">", 5, [1, 2], [[(1,)]])
    raises InvalidMatrix([(1,)])
"""

WORDS = """
    >>> from maprows.rows import Row
    >>> from maprows.words import Word, carried, value
    >>> word = Word.whole(0).right() & Word.whole(2).left()
    >>> [word.text(), word.place, word.reach, len(word), word.dual().text(), word.turned(3).text(), Word.read("0@1 + (0@1 + 1@1)").sign]
    ['right(1@0) & left(1@2)', 1, (0, 2), 2, 'right(0@0) + left(0@2)', 'left(1@3) & right(1@1)', '+']
    >>> row = Row("><", 5, [1, 2, 1], [[(1, 1)], [(2, 2)]])
    >>> [value(word, row).basis(), value(carried(Word.none(1), 0), row).basis(), len(value(Word.read("left(right(1@0))"), row)), carried(Word.none(0), 2).text()]
    [[(1, 1)], [], 1, 'right(right(0@0))']
    >>> Word.read("right(1@6)")
    raises InvalidText('right(1@6)')
"""

THREADS = """
    >>> from maprows.rows import Row
    >>> from maprows.threads import is_threads, numbers, threads
    >>> row = Row("><", 5, (1, 2, 1), [[(1, 2)], [(2, 4)]])
    >>> {bar: number for bar, number in numbers(row).items() if number > 0}
    {(0, 2): 1, (1, 1): 1}
    >>> [[bar for bar, thread in threads(row)], is_threads(row, threads(row)), is_threads(row, [((0, 2), [(1,), (1, 2), (3,)]), ((1, 1), [(0, 1)])])]
    [[(0, 2), (1, 1)], True, True]
    >>> [is_threads(row, [((0, 2), [(1,), (1, 2), (3,)]), ((1, 1), [(2, 4)])]), is_threads(row, None)]
    [False, False]
"""

PLAIN = """
    >>> from maprows.plain import births, ends, marks, nth_plain, parting, plain, plain_count, plain_number, same, stair, within
    >>> from maprows.words import Word
    >>> one, other = Word.read("left(right(1@0) & left(1@2))"), Word.read("1@0 & left(left(1@2))")
    >>> [same("><", one, other), within("><", other, one), marks("><", one)[(0, 1)], marks("><", one)[(0, 2)], marks("><", one)[(0, 0)]]
    [True, True, 0, 1, 1]
    >>> [parting("><", one, Word.whole(0)), parting("<<", one, other), births("><>", 2), ends("><>", 1), plain_count("><>><<", 3)]
    [(0, 1), None, [2, 0, 1], [2, 3, 1], 70]
    >>> [stair("><", one), plain("><", one).text(), plain_number("><", one), nth_plain("><", 0, 2).text(), nth_plain(">", 1, 1).text()]
    [(2,), 'left(left(1@2))', 2, 'left(left(1@2))', 'right(1@0)']
    >>> nth_plain(">", 1, 3)
    raises InvalidNumber(3)
"""

CLAIMS = """
    >>> from maprows.claims import Claim, bar_claim, holds, likewise, refuting
    >>> from maprows.rows import Row
    >>> from maprows.words import Word, carried
    >>> first, second, both = Word.whole(0).right(), Word.whole(1).right(), carried(Word.whole(0), 2)
    >>> sylvester = Claim([(1, both), (1, Word.whole(1)), (-1, first), (-1, second)])
    >>> [holds(">>", sylvester), refuting(">>", Claim([(1, both), (-1, first)])), sylvester.on_bars(">>")[(1, 1)], (-sylvester).total(">>", {(1, 1): 2, (0, 0): 3})]
    [True, (0, 1), 1, -2]
    >>> row = Row(">>", 2, [1, 2, 1], [[(1, 0)], [(0,), (1,)]])
    >>> [sylvester.on(row), bar_claim(">>", (0, 1)).on(row), bar_claim(">>", (0, 2)).on(row), likewise(">>", sylvester * 2, sylvester + sylvester)]
    [0, 1, 0, None]
    >>> Claim([(1, "1@0")])
    raises InvalidTerms((1, '1@0'))
"""

RANKS = """
    >>> from maprows.ranks import bars_of, clash, is_rank_table, rank_table, row_of_table
    >>> from maprows.rows import Row
    >>> row = Row(">>", 3, (1, 2, 1), [[(1, 1)], [(1,), (2,)]])
    >>> [rank_table(row), {bar: number for bar, number in bars_of(rank_table(row)).items() if number > 0}]
    [[[1, 1, 0], [2, 1], [1]], {(0, 1): 1, (1, 2): 1}]
    >>> [clash([[1, 1, 1], [1, 0], [1]]), is_rank_table([[1, 1, 0], [1, 1], [1]]), clash([[1, 1, 0], [1, 1], [1]]), rank_table(row_of_table(5, [[2, 1], [3]]))]
    [(1, 2), False, (1, 1), [[2, 1], [3]]]
    >>> bars_of([[1, 1, 0], [1, 1], [1]])
    raises NegativeBar((1, 1))
"""

ALIKE = """
    >>> from maprows.alike import alike_count, all_numbers, carry, is_carry, keepers, leads_into, parting_word, row_count
    >>> from maprows.rows import Row
    >>> one, other = Row(">", 5, (1, 2), [[(1, 2)]]), Row(">", 5, (1, 2), [[(0, 3)]])
    >>> [is_carry(one, other, carry(one, other)), parting_word(one, other), carry(one, Row(">", 5, (1, 2), [[(0, 0)]])), is_carry(one, other, [[(1,)], [(0, 3), (0, 0)]])]
    [True, None, None, False]
    >>> [leads_into(">", (0, 1), (0, 0)), leads_into(">", (0, 0), (0, 1)), leads_into(">", (1, 1), (0, 1)), leads_into(">", (0, 0), (1, 1))]
    [True, False, True, False]
    >>> [keepers(">", 2, {(0, 1): 1, (1, 1): 1}), alike_count(">", 2, {(0, 1): 1, (1, 1): 1}), row_count(">", 2, (1, 2)), len(list(all_numbers(">", (1, 2))))]
    [2, 3, 4, 2]
"""

GROWING = """
    >>> from maprows.growing import grown, numbers_after, ways_after
    >>> from maprows.rows import Row
    >>> row = grown(Row(">", 3, (1, 2), [[(1, 2)]]), "<", 1, [(1, 1)])
    >>> [row.pattern, row.sizes, row.maps()]
    ['><', (1, 2, 1), [[(1, 2)], [(1, 1)]]]
    >>> found = list(numbers_after(">", {(0, 1): 1, (1, 1): 1}, ">", 1))
    >>> [[bar for bar, number in after.items() if number > 0] for after in found]
    [[(0, 2), (1, 1)], [(0, 1), (1, 2)], [(0, 1), (1, 1), (2, 2)]]
    >>> [ways_after(">", 3, {(0, 1): 1, (1, 1): 1}, ">", after) for after in found]
    [6, 2, 1]
    >>> grown(row, "-", 1, [])
    raises InvalidArrow('-')
"""

ENDS = """
    >>> from maprows.ends import chain, leads_to, related, relation, relation_numbers
    >>> from maprows.rows import Row
    >>> row = Row("><", 5, [2, 1, 2], [[(1,), (2,)], [(1,), (0,)]])
    >>> [relation(row).basis(), related(row, (1, 0), (1, 3)), chain(row, (1, 1), (3, 0)), chain(row, (1, 0), (0, 1))]
    [[(1, 0, 1, 0), (0, 1, 2, 0), (0, 0, 0, 1)], True, [(1, 1), (3,), (3, 0)], None]
    >>> other, space = leads_to(row, (3, 1))
    >>> [other[0], space.basis(), relation_numbers("><", {(0, 2): 1, (0, 0): 1, (2, 2): 1})]
    [0, [(0, 1)], (1, 1, 1)]
"""

STREAMS = """
    >>> from maprows.streams import Stream
    >>> stream = Stream(5, 2)
    >>> stream.grow(">", 1, [(1,), (2,)])
    >>> stream.grow("<", 1, [(3,)])
    >>> [stream.row().text(), stream.lasting(), stream.numbers()[(0, 0)], len(stream), len(list(stream.outlook("<", 1)))]
    ['5: 2 > 1 < 1; 1, 2; 3', [0], 1, 3, 2]
    >>> [stream.tried(lambda held: [held.cut(1), held.row().text(), held.lasting()]), stream.undoable, stream.redoable]
    [[None, '5: 1 < 1; 3', [0]], 2, 0]
    >>> stream.redo()
    raises NothingToRedo()
"""

CONSOLES = """
    >>> from maprows.consoles import Console
    >>> console = Console()
    >>> console.run(["row f 5: 2 > 1; 1, 2", "turned f g", "beside f f h", "names", "show g", "bars h"])
    ['ok', 'ok', 'ok', 'f g h', '5: 1 < 2; 1, 2', '0-0*2 0-1*2']
    >>> console.run(["dim h right(1@0)", "same > right(1@0) = 1@1", "within > right(1@0) <= 1@1", "plain > right(1@0) + 0@1", "beside f g k", "row f 5: 1"])
    ['2', '1-1', 'yes', 'right(1@0)', '! UnlikeRows', '! NameTaken']
    >>> console("dim h right(1@1")
    raises InvalidLine('dim h right(1@1')
"""


class Examples(RowTest):

    def test_rests(self):
        self.assertEqual(check_examples(self, RESTS), 5)

    def test_spaces(self):
        self.assertEqual(check_examples(self, SPACES), 6)

    def test_rows(self):
        self.assertEqual(check_examples(self, ROWS), 6)

    def test_words(self):
        self.assertEqual(check_examples(self, WORDS), 7)

    def test_threads(self):
        self.assertEqual(check_examples(self, THREADS), 6)

    def test_plain(self):
        self.assertEqual(check_examples(self, PLAIN), 7)

    def test_claims(self):
        self.assertEqual(check_examples(self, CLAIMS), 9)

    def test_ranks(self):
        self.assertEqual(check_examples(self, RANKS), 6)

    def test_alike(self):
        self.assertEqual(check_examples(self, ALIKE), 6)

    def test_growing(self):
        self.assertEqual(check_examples(self, GROWING), 8)

    def test_ends(self):
        self.assertEqual(check_examples(self, ENDS), 6)

    def test_streams(self):
        self.assertEqual(check_examples(self, STREAMS), 7)

    def test_consoles(self):
        self.assertEqual(check_examples(self, CONSOLES), 5)


if __name__ == "__main__":
    unittest.main()
