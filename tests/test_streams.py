"""Points 120 to 122: streams."""

import itertools
import unittest

from helps import (
    PRIMES, RowTest, all_bars, all_patterns, ends_of, sequence, some_matrix, some_row, wrong_arrows, wrong_matrices,
    wrong_place_sizes, wrong_places, wrong_primes,
)
from maprows.errors import (
    InvalidArrow, InvalidMatrix, InvalidNumber, InvalidPrime, InvalidSize, NothingToRedo, NothingToUndo, TooLarge,
)
from maprows.growing import numbers_after
from maprows.rows import Row
from maprows.streams import Stream
from maprows.threads import numbers


def stream_of(row):
    """A stream that comes to a row."""
    stream = Stream(row.prime, row.sizes[0])
    for index, arrow in enumerate(row.pattern):
        stream.grow(arrow, row.sizes[index + 1], row.matrix(index))
    return stream


class History:
    """The rows of a stream in plain lists: those ahead of it, the present one, and those taken back."""

    def __init__(self, row):
        self.past, self.row, self.undone = [], row, []

    def do(self, row):
        self.past, self.row, self.undone = self.past + [self.row], row, []

    def undo(self):
        self.undone, self.row, self.past = self.undone + [self.row], self.past[-1], self.past[:-1]

    def redo(self):
        self.past, self.row, self.undone = self.past + [self.row], self.undone[-1], self.undone[:-1]

    def copy(self):
        other = History(self.row)
        other.past, other.undone = list(self.past), list(self.undone)
        return other


class StreamTest(RowTest):

    def agrees(self, stream, history):
        self.assertTrue(stream.row() == history.row)
        self.same([len(stream), stream.undoable, stream.redoable],
                  [len(history.row), len(history.past), len(history.undone)])

    def step(self, values, stream, history):
        """Some deed, done to the stream and to the history; one that must raise in the one raises in the other."""
        row, kind = history.row, next(values) % 8
        if kind < 3 and len(row) < 7:
            arrow, size = "<>"[next(values) % 2], next(values) % 4
            height, width = (row.sizes[-1], size) if arrow == ">" else (size, row.sizes[-1])
            matrix = some_matrix(values, height, width, -9, 9)
            self.assertIs(stream.grow(arrow, size, matrix), None)
            history.do(Row(row.pattern + arrow, row.prime, row.sizes + (size,), row.maps() + [matrix]))
        elif kind < 3:
            self.assertIs(type(self.raised(stream.grow, ">", 0, [()] * row.sizes[-1])), TooLarge)
        elif kind == 3 and len(row) > 1:
            count = 1 + next(values) % (len(row) - 1)
            self.assertIs(stream.cut(count), None)
            history.do(row.part(count, len(row) - 1))
        elif kind == 3:
            self.refuses(InvalidNumber, 1, stream.cut, 1)
        elif kind < 6:
            if history.past:
                self.assertIs(stream.undo(), None)
                history.undo()
            else:
                self.refuses_plainly(NothingToUndo, stream.undo)
        elif history.undone:
            self.assertIs(stream.redo(), None)
            history.redo()
        else:
            self.refuses_plainly(NothingToRedo, stream.redo)
        self.agrees(stream, history)


class Told(StreamTest):

    def test_a_new_stream(self):
        for prime, size in itertools.product(PRIMES, range(7)):
            stream = Stream(prime=prime, size=size)
            self.same([stream.row().text(), len(stream), stream.undoable, stream.redoable],
                      [f"{prime}: {size}", 1, 0, 0])
            self.same([stream.numbers(), stream.lasting()], [{(0, 0): size}, [0] * size])
            self.assertIs(type(stream.row()), Row)

    def test_rows_numbers_and_births(self):
        values = sequence(151)
        for at in range(100):
            k = at % 7
            pattern = "".join("<>"[next(values) % 2] for _ in range(k))
            row = some_row(values, pattern, PRIMES[at % 6], [next(values) % 7 for _ in range(k + 1)], 1 + at % 5)
            stream = stream_of(row)
            self.assertTrue(stream.row() == row)
            counts = numbers(row)
            self.assertEqual(stream.numbers(), counts)
            self.same(stream.lasting(), [birth for birth in range(k + 1) for _ in range(counts[birth, k])])
            self.same([len(stream), stream.undoable, stream.redoable], [k + 1, k, 0])

    def test_births_are_numbered_anew_behind_a_cut(self):
        stream = Stream(2, 1)
        for _ in range(2):
            stream.grow("<", 2, [(0,), (1,)] if len(stream) == 1 else [(0, 0), (0, 1)])
        stream.grow("<", 3, [(0, 0), (1, 0), (0, 1)])
        self.same(stream.lasting(), [0, 2, 3])
        stream.cut(1)
        self.same([stream.lasting(), stream.row().text()], [[0, 1, 2], "2: 2 < 2 < 3; 0 0, 0 1; 0 0, 1 0, 0 1"])
        stream.cut(2)
        self.same([stream.lasting(), len(stream), stream.row().pattern], [[0, 0, 0], 1, ""])
        stream.undo()
        self.same(stream.lasting(), [0, 1, 2])

    def test_outlook(self):
        values = sequence(152)
        for at in range(40):
            k = at % 6
            pattern = "".join("<>"[next(values) % 2] for _ in range(k))
            row = some_row(values, pattern, PRIMES[at % 6], [next(values) % 5 for _ in range(k + 1)], 2)
            stream, arrow, size = stream_of(row), "<>"[at % 2], next(values) % 7
            found = list(stream.outlook(arrow=arrow, size=size))
            self.assertEqual(found, list(numbers_after(pattern, numbers(row), arrow, size)))
            height, width = (row.sizes[-1], size) if arrow == ">" else (size, row.sizes[-1])
            stream.grow(arrow, size, some_matrix(values, height, width, 0, 1))
            self.assertIn(stream.numbers(), found)
            for after in stream.outlook(">", 1) if k < 5 else []:
                after.clear()
            self.assertTrue(stream.row().part(0, k) == row)

    def test_the_row_that_is_told_stays_as_it_is(self):
        stream = Stream(5, 2)
        first = stream.row()
        matrix = [[1], [2]]
        stream.grow(">", 1, matrix)
        second = stream.row()
        matrix[0][0] = 4
        matrix.pop()
        self.same([first.text(), second.text(), stream.row().text()], ["5: 2", "5: 2 > 1; 1, 2", "5: 2 > 1; 1, 2"])
        stream.cut(1)
        stream.undo()
        stream.undo()
        self.same([first.text(), second.text(), stream.row().text()], ["5: 2", "5: 2 > 1; 1, 2", "5: 2"])
        stream.numbers().clear()
        stream.lasting().clear()
        self.same([stream.numbers(), stream.lasting()], [{(0, 0): 2}, [0, 0]])

    def test_sizes_of_zero_and_six(self):
        for pattern in all_patterns(6, 6)[::13]:
            sizes = [0, 6] * 3 + [0]
            maps = [[()] * 6 if sizes[ends_of(pattern, index)[0]] else [] for index in range(6)]
            stream = stream_of(Row(pattern, 13, sizes, maps))
            self.same([len(stream), stream.lasting()], [7, []])
            stream.cut(1)
            self.same([stream.row().sizes, stream.numbers()[0, 0]], [(6, 0, 6, 0, 6, 0), 6])


class Deeds(StreamTest):

    def test_many_deeds_of_two_streams_by_turns(self):
        values = sequence(153)
        for at in range(30):
            streams = []
            for prime, size in ((PRIMES[at % 6], at % 4), (PRIMES[(at + 1) % 6], 1 + at % 3)):
                streams.append((Stream(prime, size), History(Row("", prime, [size], []))))
            for _ in range(60):
                for stream, history in streams:
                    self.step(values, stream, history)
            for stream, history in streams:
                while history.past:
                    stream.undo()
                    history.undo()
                    self.agrees(stream, history)
                self.refuses_plainly(NothingToUndo, stream.undo)
                while history.undone:
                    stream.redo()
                    history.redo()
                    self.agrees(stream, history)
                self.refuses_plainly(NothingToRedo, stream.redo)
                self.agrees(stream, history)

    def test_names_of_the_arguments(self):
        stream = Stream(3, 1)
        self.assertIs(stream.grow(arrow=">", size=2, matrix=[(1, 2)]), None)
        self.assertIs(stream.cut(count=1), None)
        self.same(stream.row().text(), "3: 2")

    def test_further_deeds_discard_what_was_taken_back(self):
        stream = Stream(3, 1)
        stream.grow(">", 1, [(1,)])
        stream.grow(">", 1, [(2,)])
        stream.undo()
        self.same([stream.undoable, stream.redoable], [1, 1])
        stream.cut(1)
        self.same([stream.undoable, stream.redoable, stream.row().text()], [2, 0, "3: 1"])
        self.refuses_plainly(NothingToRedo, stream.redo)
        stream.undo()
        stream.undo()
        stream.grow("<", 0, [])
        self.same([stream.undoable, stream.redoable, stream.row().text()], [1, 0, "3: 1 < 0; -"])

    def test_many_deeds_taken_back(self):
        stream = Stream(2, 1)
        for _ in range(200):
            stream.grow("<", 1, [(1,)])
            stream.cut(1)
        self.same([stream.undoable, stream.row().text()], [400, "2: 1"])
        for _ in range(399):
            stream.undo()
        self.same([stream.undoable, stream.redoable, stream.row().text()], [1, 399, "2: 1 < 1; 1"])


class Trials(StreamTest):

    def started(self):
        """A stream with deeds that can be taken back and done again."""
        stream = Stream(5, 1)
        for size in (2, 1, 2):
            width = stream.row().sizes[-1]
            stream.grow(">", size, [(1,) * size] * width)
        stream.undo()
        return stream

    def state(self, stream):
        """The row and all deeds of a stream, as texts, told by taking back and doing again in another block."""
        with stream.trial():
            told = [stream.row().text(), stream.undoable, stream.redoable]
            while stream.redoable:
                stream.redo()
                told.append(stream.row().text())
            while stream.undoable:
                stream.undo()
                told.append(stream.row().text())
        return told

    def test_deeds_in_a_block(self):
        deeds = {
            "grow": lambda held: held.grow("<", 0, []), "cut": lambda held: held.cut(len(held) - 1),
            "undo": lambda held: held.undo(), "redo": lambda held: held.redo(),
        }
        for names in itertools.product(deeds, repeat=3):
            stream = self.started()
            before = self.state(stream)
            with stream.trial() as held:
                self.assertIs(held, stream)
                for name in names:
                    possible = {"undo": held.undoable, "redo": held.redoable, "cut": len(held) - 1}
                    if possible.get(name, 1) > 0:
                        deeds[name](held)
            self.same(self.state(stream), before)
            self.same([stream.undoable, stream.redoable, stream.row().text()], [2, 1, "5: 1 > 2 > 1; 1 1; 1, 1"])
            stream.redo()
            self.same(stream.row().sizes, (1, 2, 1, 2))

    def test_more_is_taken_back_than_was_done(self):
        stream = self.started()
        before = self.state(stream)
        with stream.trial():
            stream.cut(1)
            for _ in range(3):
                stream.undo()
            self.refuses_plainly(NothingToUndo, stream.undo)
            stream.grow(">", 0, [()])
            self.same([stream.undoable, stream.redoable], [1, 0])
        self.same(self.state(stream), before)

    def test_exceptions_go_on(self):
        stream = self.started()
        before = self.state(stream)
        for error in (KeyError("x"), NothingToUndo(), ZeroDivisionError(), KeyboardInterrupt()):
            with self.assertRaises(type(error)) as caught:
                with stream.trial() as held:
                    held.undo()
                    held.cut(1)
                    raise error
            self.assertIs(caught.exception, error)
            self.same(self.state(stream), before)
        with self.assertRaises(InvalidNumber):
            with stream.trial() as held:
                held.undo()
                held.cut(7)
        self.same(self.state(stream), before)

    def test_blocks_in_blocks(self):
        stream = self.started()
        states = [self.state(stream)]
        with stream.trial() as one:
            one.grow("<", 1, [(2,)])
            states.append(self.state(stream))
            with stream.trial() as two:
                two.undo()
                two.undo()
                states.append(self.state(stream))
                with stream.trial() as three:
                    three.cut(1)
                    self.assertIs(three, stream)
                self.same(self.state(stream), states[2])
                two.redo()
            self.same(self.state(stream), states[1])
            with self.assertRaises(KeyError):
                with stream.trial() as two:
                    two.cut(1)
                    raise KeyError
            self.same(self.state(stream), states[1])
        self.same(self.state(stream), states[0])

    def test_the_state_is_that_of_the_beginning_of_the_block(self):
        stream = self.started()
        block = stream.trial()
        stream.redo()
        before = self.state(stream)
        with block:
            stream.undo()
            stream.cut(1)
        self.same(self.state(stream), before)

    def test_many_deeds_in_blocks(self):
        values = sequence(154)
        for at in range(25):
            prime, size = PRIMES[at % 6], 1 + at % 3
            stream, history = Stream(prime, size), History(Row("", prime, [size], []))
            for _ in range(12):
                for _ in range(next(values) % 6):
                    self.step(values, stream, history)
                inner = history.copy()
                with stream.trial():
                    for _ in range(next(values) % 8):
                        self.step(values, stream, inner)
                self.agrees(stream, history)

    def test_tried(self):
        stream = self.started()
        before = self.state(stream)
        seen = []

        def act(*held, **named):
            seen.append((held, named))
            stream.cut(1)
            return seen
        self.assertIs(stream.tried(act), seen)
        self.assertEqual([len(held) for held, _ in seen], [1])
        self.assertIs(seen[0][0][0], stream)
        self.assertEqual(seen[0][1], {})
        self.same(self.state(stream), before)
        self.same(stream.tried(act=lambda held: held.tried(lambda again: [again.undo(), len(again)])), [None, 2])
        self.same(self.state(stream), before)
        self.assertIs(stream.tried(lambda held: None), None)
        self.refuses(InvalidNumber, 9, stream.tried, lambda held: [held.undo(), held.cut(9)])
        self.same(self.state(stream), before)


class Wrong(StreamTest):

    def test_making(self):
        self.refuses_in_order(Stream, {"prime": 5, "size": 2}, [
            ("prime", InvalidPrime, wrong_primes()), ("size", InvalidSize, wrong_place_sizes()),
        ])

    def test_growing(self):
        for pattern in ("", "<", ">><"):
            k = len(pattern)
            row = Row(pattern, 3, [1] * k + [2], [[(1,)]] * (k - 1) + [[(1,), (1,)]] * min(k, 1))
            for arrow in "<>":
                stream = stream_of(row)
                stream.grow(arrow, 0, [()] * 2 if arrow == ">" else [])
                stream.undo()
                height, width = (2, 3) if arrow == ">" else (3, 2)
                order = [("arrow", InvalidArrow, wrong_arrows()), ("size", InvalidSize, wrong_place_sizes()),
                         ("matrix", InvalidMatrix, wrong_matrices(height, width))]
                good = {"arrow": arrow, "size": 3, "matrix": [(1,) * width] * height}
                self.refuses_in_order(lambda **named: stream.tried(lambda held: held.grow(**named)), good, order)
                for name, error, bads in order:
                    for bad in bads:
                        self.refuses(error, bad, stream.grow, **{**good, name: bad})
                        self.agrees(stream, self.history_of(row, k))
                        self.assertEqual(stream.redoable, 1)

    def history_of(self, row, k):
        history = History(row)
        history.past = [row.part(0, place) for place in range(k)]
        history.undone = [row]
        return history

    def test_growing_beyond_six_arrows(self):
        stream = stream_of(Row("><><><", 3, [1] * 7, [[(1,)]] * 6))
        for arrow in "<>":
            for size, matrix in ((1, [(1,)]), (None, None), (7, [])):
                found = self.raised(stream.grow, arrow, size, matrix)
                self.assertIs(type(found), TooLarge)
                self.same(found.value, 7)
                found = self.raised(lambda: list(stream.outlook(arrow, size)))
                self.assertIs(type(found), TooLarge)
        for arrow in wrong_arrows():
            self.refuses(InvalidArrow, arrow, stream.grow, arrow, None, None)
        self.same([stream.undoable, stream.redoable, len(stream)], [6, 0, 7])
        stream.cut(1)
        stream.grow("<", 0, [])
        self.same(stream.row().sizes, (1,) * 6 + (0,))

    def test_outlook(self):
        stream = stream_of(Row("><", 3, [1] * 3, [[(1,)]] * 2))
        self.refuses_in_order(lambda arrow, size: list(stream.outlook(arrow, size)), {"arrow": "<", "size": 1}, [
            ("arrow", InvalidArrow, wrong_arrows()), ("size", InvalidSize, wrong_place_sizes()),
        ])

    def test_cutting(self):
        for k in (0, 1, 3, 6):
            stream = stream_of(Row("<" * k, 5, [1] * (k + 1), [[(1,)]] * k))
            if k < 6:
                stream.grow("<", 0, [])
                stream.undo()
            for count in wrong_places(1, k):
                with self.subTest(k=k, count=count):
                    self.refuses(InvalidNumber, count, stream.cut, count)
                    self.refuses(InvalidNumber, count, stream.cut, count=count)
                    self.same([len(stream), stream.undoable, stream.redoable], [k + 1, k, int(k < 6)])
            for count in range(1, k + 1):
                with stream.trial():
                    stream.cut(count)
                    self.assertEqual(len(stream), k + 1 - count)

    def test_all_bars_of_a_stream(self):
        stream = stream_of(Row("><><><", 3, [1] * 7, [[(1,)]] * 6))
        self.assertEqual(sorted(stream.numbers()), all_bars(6))


if __name__ == "__main__":
    unittest.main()
