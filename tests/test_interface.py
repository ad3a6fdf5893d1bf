"""Point 10 and the interface over the whole program: names of files, classes, methods and arguments."""

import importlib
import inspect
import types
import unittest

from helps import RowTest
from maprows.claims import Claim
from maprows.consoles import Console
from maprows.rows import Row
from maprows.spaces import Space
from maprows.streams import Stream
from maprows.words import Word

ROW = Row("><", 5, [1, 2, 1], [[(1, 2)], [(2, 4)]])
ONE_WAY = Row(">", 5, [2, 1], [[(1,), (2,)]])
WORD = Word.read("right(1@0) & left(1@2)")
CLAIM = Claim([(2, WORD), (-1, Word.whole(1))])
SPACE = Space(5, 3, [(1, 2, 3)])
TABLE = [[2, 1], [3]]
NUMBERS = {(0, 1): 1, (1, 1): 1}
AFTER = {(0, 1): 1, (1, 2): 1}
CARRY = [[(2,)], [(2, 0), (0, 2)], [(2,)]]
THREADS = [((0, 2), [(1,), (1, 2), (3,)]), ((1, 1), [(0, 1)])]

# For each file its functions, with arguments by their names, in the order of the interface.
FUNCTIONS = {
    "rests": {
        "is_integer": {"value": 3, "low": 0, "high": 2}, "is_prime": {"value": 7},
        "inverse": {"number": 3, "prime": 7}, "is_matrix": {"value": [(1, 2)], "height": 1, "width": 2},
        "led": {"prime": 5, "vector": (1, 2), "matrix": [(1, 0, 3), (0, 4, 1)], "width": 3},
        "joined": {"prime": 5, "one": [(1, 2)], "other": [(1, 0), (3, 1)], "width": 2},
        "exchanged": {"prime": 3, "matrix": [(1, 2, 4)], "width": 3},
    },
    "spaces": {
        "extension": {"inner": Space(5, 3), "outer": SPACE},
        "factors_for": {"prime": 5, "rows": [(1, 1), (0, 2)], "vector": (3, 2)},
        "inverse_of": {"prime": 5, "matrix": [(1, 1), (0, 2)]},
    },
    "rows": {
        "is_pattern": {"value": "><"}, "bars": {"pattern": "><"},
        "bar_row": {"pattern": "><", "prime": 3, "bar": (1, 2)},
        "row_with": {"pattern": ">", "prime": 2, "numbers": NUMBERS}, "read_row": {"text": ROW.text()},
    },
    "words": {"carried": {"word": WORD, "place": 3}, "value": {"word": WORD, "row": ROW}},
    "threads": {
        "threads": {"row": ROW}, "numbers": {"row": ROW}, "is_threads": {"row": ROW, "told": THREADS},
    },
    "plain": {
        "marks": {"pattern": "><", "word": WORD}, "same": {"pattern": "><", "one": WORD, "other": Word.whole(1)},
        "within": {"pattern": "><", "one": WORD, "other": Word.whole(1)},
        "parting": {"pattern": "><", "one": WORD, "other": Word.whole(1)},
        "breach": {"pattern": "><", "one": Word.whole(1), "other": WORD},
        "births": {"pattern": "><>", "place": 2}, "ends": {"pattern": "><>", "place": 1},
        "stair": {"pattern": "><", "word": WORD}, "plain": {"pattern": "><", "word": WORD},
        "nth_plain": {"pattern": "><", "place": 1, "number": 2}, "plain_count": {"pattern": "><", "place": 1},
        "plain_number": {"pattern": "><", "word": WORD}, "plain_words": {"pattern": "><", "place": 1},
    },
    "claims": {
        "holds": {"pattern": "><", "claim": CLAIM}, "refuting": {"pattern": "><", "claim": CLAIM},
        "likewise": {"pattern": "><", "one": CLAIM, "other": Claim([])},
        "bar_claim": {"pattern": "><", "bar": (0, 1)},
    },
    "ranks": {
        "rank_table": {"row": ONE_WAY}, "clash": {"table": TABLE}, "is_rank_table": {"value": TABLE},
        "bars_of": {"table": TABLE}, "row_of_table": {"prime": 5, "table": TABLE},
    },
    "alike": {
        "carry": {"one": ROW, "other": ROW}, "is_carry": {"one": ROW, "other": ROW, "told": CARRY},
        "parting_word": {"one": ROW, "other": ROW + ROW},
        "leads_into": {"pattern": ">", "bar": (0, 1), "other": (0, 0)},
        "keepers": {"pattern": ">", "prime": 2, "numbers": NUMBERS},
        "alike_count": {"pattern": ">", "prime": 2, "numbers": NUMBERS},
        "row_count": {"pattern": ">", "prime": 2, "sizes": (1, 2)},
        "all_numbers": {"pattern": ">", "sizes": (1, 2)},
    },
    "growing": {
        "grown": {"row": ONE_WAY, "arrow": "<", "size": 1, "matrix": [(3,)]},
        "numbers_after": {"pattern": ">", "numbers": NUMBERS, "arrow": ">", "size": 1},
        "ways_after": {"pattern": ">", "prime": 3, "numbers": NUMBERS, "arrow": ">", "after": AFTER},
    },
    "ends": {
        "relation": {"row": ROW}, "related": {"row": ROW, "vector": (1,), "other": (3,)},
        "chain": {"row": ROW, "vector": (1,), "other": (3,)}, "leads_to": {"row": ROW, "vector": (1,)},
        "relation_numbers": {"pattern": ">", "numbers": NUMBERS},
    },
}

# For each class its methods with arguments, and those without any.
METHODS = {
    "Space": (SPACE, {
        "nothing": {"prime": 5, "length": 2}, "whole": {"prime": 5, "length": 2}, "rest": {"vector": (1, 1, 1)},
        "lies_in": {"other": SPACE}, "image": {"matrix": [(1, 0), (0, 1), (1, 1)], "width": 2},
        "back": {"matrix": [(1, 2, 3), (0, 0, 1)]},
    }, ["basis"]),
    "Row": (ROW, {"matrix": {"index": 1}, "part": {"first": 1, "last": 2}}, ["maps", "turned", "dual", "text"]),
    "Word": (WORD, {
        "none": {"place": 2}, "whole": {"place": 3}, "read": {"text": "1@0 + 0@0"}, "fits": {"pattern": "><"},
        "turned": {"k": 3},
    }, ["right", "left", "dual", "text"]),
    "Claim": (CLAIM, {
        "fits": {"pattern": "><"}, "on": {"row": ROW}, "total": {"pattern": "><", "numbers": {(0, 1): 2}},
        "on_bars": {"pattern": "><"},
    }, []),
    "Stream": (Stream(5, 2), {"outlook": {"arrow": ">", "size": 1}}, ["row", "numbers", "lasting"]),
    "Console": (Console(), {"run": {"lines": ["row a 2: 1", "names", "undo"]}}, []),
}

# For each class its file, the arguments with which it is made, and its other methods and properties.
CLASSES = {
    "Space": ("spaces", {"prime": 5, "length": 2, "vectors": [(1, 2)]},
              ["prime", "length", "__len__", "__eq__", "__contains__", "__add__", "__and__"]),
    "Row": ("rows", {"pattern": ">", "prime": 5, "sizes": (1, 2), "maps": [[(1, 2)]]},
            ["pattern", "prime", "sizes", "__len__", "__eq__", "__add__"]),
    "Word": ("words", None, ["sign", "place", "parts", "reach", "__add__", "__and__", "__eq__", "__len__"]),
    "Claim": ("claims", {"terms": [(1, WORD)]}, ["terms", "__add__", "__sub__", "__neg__", "__mul__", "__eq__"]),
    "Stream": ("streams", {"prime": 5, "size": 2},
               ["__len__", "grow", "cut", "undo", "redo", "undoable", "redoable", "trial", "tried"]),
    "Console": ("consoles", {}, ["__call__"]),
}


def told(result):
    """A result as a text, with the texts of objects and what generators yield in it."""
    if isinstance(result, types.GeneratorType):
        return "generator of " + told(list(result))
    if isinstance(result, (list, tuple)):
        return type(result).__name__ + str([told(item) for item in result])
    if isinstance(result, Space):
        return str((result.prime, result.length, result.basis()))
    if isinstance(result, (Row, Word)):
        return result.text()
    if isinstance(result, Claim):
        return told(result.terms)
    if isinstance(result, Stream):
        return told([result.row(), result.undoable, result.redoable])
    if isinstance(result, Console):
        return result("names")
    return repr(result)


def module(name):
    return importlib.import_module("maprows." + name)


class Interface(RowTest):

    def same_by_name(self, call, named):
        self.assertEqual(list(inspect.signature(call).parameters), list(named))
        expected = told(call(*named.values()))
        self.assertEqual(told(call(**named)), expected)
        self.assertEqual(told(call(**dict(reversed(list(named.items()))))), expected)

    def test_functions(self):
        for name, functions in FUNCTIONS.items():
            for function, named in functions.items():
                with self.subTest(name=name, function=function):
                    found = getattr(module(name), function)
                    self.assertEqual((found.__module__, found.__name__), ("maprows." + name, function))
                    self.assertIs(type(found), types.FunctionType)
                    self.same_by_name(found, named)

    def test_classes(self):
        for name, (file, named, others) in CLASSES.items():
            with self.subTest(name=name):
                found = getattr(module(file), name)
                self.assertEqual((found.__module__, found.__name__), ("maprows." + file, name))
                for other in others + list(METHODS[name][1]) + METHODS[name][2]:
                    self.assertIn(other, vars(found))
                if named is not None:
                    self.same_by_name(found, named)

    def test_methods(self):
        for name, (one, calls, plainly) in METHODS.items():
            for method, named in calls.items():
                with self.subTest(name=name, method=method):
                    self.same_by_name(getattr(one, method), named)
            for method in plainly:
                with self.subTest(name=name, method=method):
                    self.same_by_name(getattr(one, method), {})

    def test_deeds(self):
        deeds = [("grow", {"arrow": "<", "size": 1, "matrix": [(1, 2)]}), ("cut", {"count": 1}), ("undo", {}),
                 ("redo", {}), ("tried", {"act": lambda held: held.row().text()})]
        one, other = Stream(5, 2), Stream(5, 2)
        for name, named in deeds:
            self.assertEqual(list(inspect.signature(getattr(one, name)).parameters), list(named))
            self.assertEqual(told(getattr(one, name)(*named.values())), told(getattr(other, name)(**named)))
            self.assertEqual(told(one), told(other))
        self.assertEqual(list(inspect.signature(Console()).parameters), ["line"])
        self.assertEqual(Console()(line="row a 2: 1"), "ok")
        self.assertEqual(list(inspect.signature(one.trial).parameters), [])

    def test_what_has_a_default_may_be_left_out(self):
        is_integer = module("rests").is_integer
        self.same([is_integer(7), is_integer(value=7, high=6), is_integer(7, 8), is_integer(value=7, low=7)],
                  [True, False, False, True])
        self.assertTrue(Space(5, 2) == Space(prime=5, length=2) == Space(5, 2, vectors=()) == Space.nothing(5, 2))

    def test_exceptions(self):
        errors = module("errors")
        one = ("InvalidPrime NoInverse InvalidSize InvalidVector InvalidMatrix InvalidPattern InvalidPlace InvalidBar "
               "InvalidSizes InvalidMaps InvalidNumbers InvalidText InvalidTerms InvalidTable InvalidNumber "
               "InvalidArrow InvalidName InvalidLine NotFitting NotOneWay TooLarge").split()
        named = [(name, "value") for name in one]
        named += [("NegativeBar", "bar"), ("NameTaken", "name"), ("UnknownName", "name")]
        for name, attribute in named:
            found = getattr(errors, name)
            self.assertEqual((found.__module__, found.__bases__), ("maprows.errors", (errors.RowError,)))
            for value in ([1], None, ROW, "x"):
                for error in (found(value), found(**{attribute: value})):
                    self.assertIs(getattr(error, attribute), value)
        for name in ("UnlikeSpaces", "UnlikePlaces", "UnlikeRows", "NotWithin", "NothingToUndo", "NothingToRedo"):
            self.assertEqual(getattr(errors, name).__bases__, (errors.RowError,))
            self.assertIsInstance(getattr(errors, name)(), ValueError)
        self.assertEqual(errors.RowError.__bases__, (ValueError,))


if __name__ == "__main__":
    unittest.main()
