"""The examples of the document's interface, as they stand there."""

import unittest

from helps import RowTest, check_examples

RESTS = """
    >>> from maprows.rests import exchanged, inverse, is_integer, is_matrix, is_prime, joined, led
    >>> [is_integer(3, 0, 2), is_integer(True), is_prime(13), is_prime(9), inverse(3, 7), inverse(-1, 5)]
    [False, False, True, False, 5, 4]
    >>> [led(5, (1, 2), [(1, 0, 3), (0, 4, 1)], 3), led(5, (), [], 2), joined(5, [(1, 2)], [(1, 0), (3, 1)], 2), exchanged(3, [(1, 2, 4)], 3)]
    [(1, 3, 0), (0, 0), [(2, 2)], [(1,), (2,), (1,)]]
    >>> [is_matrix([(1, 2), [3, 4]], 2, 2), is_matrix([], 0, 3), is_matrix([(1,)], 1, 2)]
    [True, True, False]
    >>> inverse(10, 5)
    raises NoInverse(10)
"""

SPACES = """
    >>> from maprows.spaces import Space, extension, factors_for, inverse_of
    >>> one = Space(5, 3, [(2, 4, 1), (1, 2, 3)])
    >>> [one.basis(), len(one), (1, 2, 8) in one, one.rest((1, 1, 1)), (one & Space(5, 3, [(0, 1, 0)])) == Space.nothing(5, 3)]
    [[(1, 2, 3)], 1, True, (0, 4, 3), True]
    >>> [one.image([(1, 0), (0, 1), (1, 1)], 2).basis(), Space.nothing(5, 2).back([(1, 0), (0, 1), (1, 1)]).basis()]
    [[(1, 0)], [(1, 1, 4)]]
    >>> [len(extension(one, one + Space(5, 3, [(0, 0, 2)]))), factors_for(5, [(1, 1), (0, 2)], (3, 2)), inverse_of(5, [(1, 1), (0, 2)])]
    [1, [3, 2], [(1, 2), (0, 3)]]
    >>> Space(4, 1)
    raises InvalidPrime(4)
"""


class Examples(RowTest):

    def test_rests(self):
        self.assertEqual(check_examples(self, RESTS), 5)

    def test_spaces(self):
        self.assertEqual(check_examples(self, SPACES), 6)


if __name__ == "__main__":
    unittest.main()
