"""Points 12 and 13: the exceptions themselves."""

import unittest

import maprows.errors
from helps import GREAT, RowTest, things
from maprows.errors import InvalidPrime, RowError

WITH_VALUE = (
    "InvalidPrime", "NoInverse", "InvalidSize", "InvalidVector", "InvalidMatrix", "InvalidPattern", "InvalidPlace",
    "InvalidBar", "InvalidSizes", "InvalidMaps", "InvalidNumbers", "InvalidText", "InvalidTerms", "InvalidTable",
    "InvalidNumber", "InvalidArrow", "InvalidName", "InvalidLine", "NotFitting", "NotOneWay", "TooLarge",
)
KEPT = {**{name: "value" for name in WITH_VALUE}, "NegativeBar": "bar", "NameTaken": "name", "UnknownName": "name"}
WITHOUT = ("UnlikeSpaces", "UnlikePlaces", "UnlikeRows", "NotWithin", "NothingToUndo", "NothingToRedo")


class Unshown:
    """A value that cannot be shown as a text."""

    def __repr__(self):
        raise AssertionError("an exception shows its value while it is created")

    __str__ = __repr__


def any_values():
    held = []
    held.append(held)
    others = [object(), ValueError("x"), held, Unshown(), 10 ** 5000]
    return things() + others + [0, -3, GREAT, [], [1, [2, (3, None)]], ()]


def error_class(name):
    return getattr(maprows.errors, name)


class Classes(RowTest):

    def test_row_error_is_directly_below_value_error(self):
        self.assertEqual(RowError.__bases__, (ValueError,))
        self.assertEqual(RowError.__name__, "RowError")

    def test_all_others_are_directly_below_row_error(self):
        for name in (*KEPT, *WITHOUT):
            with self.subTest(name=name):
                self.assertEqual(error_class(name).__bases__, (RowError,))
                self.assertEqual(error_class(name).__name__, name)
                self.assertEqual(error_class(name).__module__, "maprows.errors")

    def test_each_name_has_a_class_of_its_own(self):
        self.assertEqual(len({error_class(name) for name in (*KEPT, *WITHOUT)}), 30)


class Values(RowTest):

    def test_the_very_value_is_kept_by_position_and_by_name(self):
        for name, attribute in KEPT.items():
            for value in any_values():
                with self.subTest(name=name):
                    by_position = error_class(name)(value)
                    by_name = error_class(name)(**{attribute: value})
                    self.assertIs(getattr(by_position, attribute), value)
                    self.assertIs(getattr(by_name, attribute), value)

    def test_a_kept_list_is_not_copied(self):
        kept = [1]
        error = InvalidPrime(kept)
        kept.append(2)
        self.same(error.value, [1, 2])

    def test_exceptions_without_values(self):
        for name in WITHOUT:
            with self.subTest(name=name):
                self.assertIsInstance(error_class(name)(), RowError)

    def test_they_can_be_raised_and_caught_at_each_height(self):
        for name in (*KEPT, *WITHOUT):
            values = ([1],) if name in KEPT else ()
            for caught in (error_class(name), RowError, ValueError):
                with self.subTest(name=name, caught=caught), self.assertRaises(caught):
                    raise error_class(name)(*values)


if __name__ == "__main__":
    unittest.main()
