"""Points 130 and 131: consoles and their lines."""

import unittest

from helps import RowTest, all_bars, all_patterns, sequence, some_rows, some_word, things
from maprows.consoles import Console
from maprows.errors import InvalidLine, RowError
from maprows.plain import breach, parting, plain
from maprows.rows import read_row
from maprows.threads import numbers
from maprows.words import Word, carried, value

SOME = ["row f 5: 2 > 1; 1, 2", "row g 5: 1 < 2; 1, 2", "row h 3: 0", "row abcdefgh 5: 2 > 1; 0, 1"]
NAMES = ("a", "b", "f", "row", "undo", "zzzzzzzz")


def started():
    console = Console()
    assert console.run(SOME) == ["ok"] * 4
    return console


def kept(console):
    """All that is kept, as texts."""
    names = console("names").split(" ")
    return [] if names == ["-"] else [(name, console(f"show {name}")) for name in names]


def bars_told(row):
    counts = numbers(row)
    told = [f"{a}-{b}*{counts[a, b]}" for a, b in all_bars(len(row.pattern)) if counts[a, b] > 0]
    return " ".join(told) or "-"


class Plainly:
    """What a console should keep, in a plain dict of rows and a list of the dicts ahead of its lines."""

    def __init__(self):
        self.rows, self.past = {}, []

    def answer(self, line):
        words = line.split(" ")
        command, names = words[0], words[1:]
        if command == "names":
            return " ".join(sorted(self.rows)) or "-"
        if command == "undo":
            if not self.past:
                return "! NothingToUndo"
            self.rows = self.past.pop()
            return "ok"
        asked = {"row": 0, "beside": 2}.get(command, 1)
        if any(name not in self.rows for name in names[:asked]):
            return "! UnknownName"
        if command == "show":
            return self.rows[names[0]].text()
        if command == "bars":
            return bars_told(self.rows[names[0]])
        if command == "dim":
            word, row = Word.read(" ".join(names[1:])), self.rows[names[0]]
            return str(len(value(word, row))) if word.fits(row.pattern) else "! NotFitting"
        return self.change(command, names)

    def change(self, command, names):
        rows = dict(self.rows)
        if command == "drop":
            del rows[names[0]]
        else:
            name = names[0] if command == "row" else names[-1]
            if name in rows:
                return "! NameTaken"
            try:
                rows[name] = self.made(command, names)
            except RowError as error:
                return "! " + type(error).__name__
        self.past.append(self.rows)
        self.rows = rows
        return "ok"

    def made(self, command, names):
        if command == "row":
            return read_row(" ".join(names[1:]))
        row = self.rows[names[0]]
        return {"beside": lambda: row + self.rows[names[1]], "turned": row.turned, "dual": row.dual}[command]()


class Lines(RowTest):

    def test_keeping_rows(self):
        console = Console()
        self.same(console("names"), "-")
        self.same(console.run(["row b 5: 2 > 1; 1, 2", "row a 5: 1 < 2; 1, 2", "turned b c", "dual b row"]), ["ok"] * 4)
        self.same(console("names"), "a b c row")
        self.same(console.run(["show a", "show b", "show c", "show row"]),
                  ["5: 1 < 2; 1, 2", "5: 2 > 1; 1, 2", "5: 1 < 2; 1, 2", "5: 2 < 1; 1 2"])
        self.same(console.run(["beside a c x", "show x", "drop a", "names", "beside x x x"]),
                  ["ok", "5: 2 < 4; 1 0, 2 0, 0 1, 0 2", "ok", "b c row x", "! NameTaken"])

    def test_texts_of_rows(self):
        console = Console()
        for at, row in enumerate(some_rows(161, 120, 6, 6)):
            self.same(console(f"row x {row.text()}"), "ok")
            self.same([console("show x"), console("bars x")], [row.text(), bars_told(row)])
            self.same(console.run(["turned x y", "show y", "dual y z", "show z"]),
                      ["ok", row.turned().text(), "ok", row.turned().dual().text()])
            if max(row.sizes) <= 3:
                self.same(console.run(["beside x x w", "show w", "bars w"]),
                          ["ok", (row + row).text(), bars_told(row + row)])
            else:
                self.same(console.run(["beside x x w", "names"]), ["! TooLarge", "x y z"])
            console = Console() if at % 2 else self.emptied(console)

    def emptied(self, console):
        while console("undo") == "ok":
            pass
        self.same(console("names"), "-")
        return console

    def test_rows_of_sizes_zero(self):
        console = Console()
        self.same(console.run(["row a 2: 0", "row b 7: 0 > 0 < 0; -; -", "row c 7: 0 > 6; -"]), ["ok"] * 3)
        self.same(console.run(["show a", "show b", "show c", "bars a", "bars b", "bars c"]),
                  ["2: 0", "7: 0 > 0 < 0; -; -", "7: 0 > 6; -", "-", "-", "1-1*6"])
        self.same(console.run(["turned a d", "dual b e", "show d", "show e", "dim c 1@1", "dim c 1@0"]),
                  ["ok", "ok", "2: 0", "7: 0 < 0 > 0; -; -", "6", "0"])

    def test_dimensions(self):
        values = sequence(162)
        for row in some_rows(163, 60, 6, 5):
            console = Console()
            console(f"row name {row.text()}")
            for leaves, steps in ((1, 1), (3, 4), (8, 20)):
                word = some_word(values, next(values) % (len(row.pattern) + 1), leaves, steps, len(row.pattern))
                self.same(console(f"dim name {word.text()}"), str(len(value(word, row))))
            self.same(console("dim name " + carried(Word.whole(6), 0).text()),
                      str(len(value(carried(Word.whole(6), 0), row))) if len(row) == 7 else "! NotFitting")

    def test_words_in_all_rows(self):
        values = sequence(164)
        console = Console()
        seen = {}
        for pattern in all_patterns(4) + ["<><><>", ">>>>>>"]:
            shown = pattern or "-"
            for at in range(8):
                place = next(values) % (len(pattern) + 1)
                one, other = [some_word(values, place, 1 + at % 3, at % 5, len(pattern)) for _ in "12"]
                for command, found in (("same", parting), ("within", breach)):
                    bar = found(pattern, one, other)
                    sign = "=" if command == "same" else "<="
                    answer = console(f"{command} {shown} {one.text()} {sign} {other.text()}")
                    self.same(answer, "yes" if bar is None else f"{bar[0]}-{bar[1]}")
                    seen[command, bar is None] = seen.get((command, bar is None), 0) + 1
                self.same(console(f"plain {shown} {one.text()}"), plain(pattern, one).text())
        self.assertGreater(min(seen.values()), 20)
        self.assertEqual(len(seen), 4)
        self.same(console("names"), "-")

    def test_long_texts_that_were_returned(self):
        values = sequence(165)
        word = some_word(values, 3, 24, 40)
        for _ in range(4):
            word = word + word
        text = word.text()
        self.assertGreater(len(text), 3000)
        console = Console()
        self.same(console(f"plain ><><>< {text}"), plain("><><><", word).text())
        self.same(console(f"same ><><>< {text} = {text}"), "yes")
        self.same(console(f"within ><><>< {text} <= {text}"), "yes")
        row = read_row("2: 6 > 6 > 6 > 6 < 6 < 6 < 6" + ("; " + ", ".join(["1 1 1 1 1 1"] * 6)) * 6)
        self.same(console(f"row x {row.text()}"), "ok")
        self.same([console("show x"), console(f"dim x {text}")], [row.text(), str(len(value(word, row)))])

    def test_consoles_know_nothing_of_one_another(self):
        one, other = Console(), Console()
        self.same([one("row a 2: 1"), other("names"), other("show a"), other("undo")],
                  ["ok", "-", "! UnknownName", "! NothingToUndo"])
        self.same([other("row a 3: 2"), one("show a"), one("undo"), one("names"), other("show a")],
                  ["ok", "2: 1", "ok", "-", "3: 2"])


class Undoing(RowTest):

    def test_each_kind_of_line(self):
        for line in ("row x 2: 1", "beside f f x", "turned f x", "dual g x", "drop f"):
            console = started()
            before = kept(console)
            self.same(console(line=line), "ok")
            self.assertNotEqual(kept(console), before)
            self.same(console("undo"), "ok")
            self.same(kept(console), before)
            self.same([console("undo"), console("names")], ["ok", "f g h"])

    def test_what_is_not_taken_back(self):
        console = started()
        for line in ("names", "show f", "bars f", "dim f 1@0", "same - 1@0 = 0@0", "within > 1@0 <= 1@0", "plain - 0@0",
                     "row f 2: 1", "drop x", "beside f g x", "turned x y", "dual f g", "show x", "dim f 1@6"):
            console(line)
        self.same([console("undo"), console("names")], ["ok", "f g h"])
        self.same(console.run(["undo", "undo", "undo", "undo", "names", "undo"]),
                  ["ok", "ok", "ok", "! NothingToUndo", "-", "! NothingToUndo"])

    def test_a_name_dropped_and_kept_again(self):
        console = Console()
        lines = ["row a 2: 1", "drop a", "row a 3: 2", "drop a", "undo", "show a"]
        self.same(console.run(lines), ["ok"] * 5 + ["3: 2"])
        self.same(console.run(["undo", "names", "undo", "show a", "undo", "names", "undo"]),
                  ["ok", "-", "ok", "2: 1", "ok", "-", "! NothingToUndo"])

    def test_many_lines_of_two_consoles_by_turns(self):
        values = sequence(166)
        rows = [row.text() for row in some_rows(167, 12, 2, 3, (2, 3))]
        for _ in range(12):
            consoles = [(Console(), Plainly()), (Console(), Plainly())]
            answers = {}
            for _ in range(80):
                for console, plainly in consoles:
                    line = self.some_line(values, rows)
                    found = console(line)
                    self.same(found, plainly.answer(line))
                    answers[found] = answers.get(found, 0) + 1
            for console, plainly in consoles:
                self.same(kept(console), [(name, plainly.rows[name].text()) for name in sorted(plainly.rows)])
                while plainly.past:
                    self.same(console("undo"), plainly.answer("undo"))
                    self.same(kept(console), [(name, plainly.rows[name].text()) for name in sorted(plainly.rows)])
                self.same(console("undo"), "! NothingToUndo")
            for answer in ("ok", "! UnknownName", "! NameTaken"):
                self.assertGreater(answers[answer], 5)

    def some_line(self, values, rows):
        one, two, three = [NAMES[next(values) % len(NAMES)] for _ in "123"]
        return (
            f"row {one} {rows[next(values) % len(rows)]}", f"row {two} {rows[0]}", f"beside {one} {two} {three}",
            f"beside {one} {one} {two}", f"turned {one} {two}", f"dual {one} {two}", f"drop {one}", "undo", "names",
            f"show {one}", f"bars {two}", f"dim {one} 1@0", f"dim {one} right(1@0) + 0@1",
        )[next(values) % 13]


class Failing(RowTest):

    def test_answers_of_lines_that_fail(self):
        console = started()
        before = kept(console)
        for line, answer in (
            ("show x", "UnknownName"), ("bars x", "UnknownName"), ("drop x", "UnknownName"),
            ("dim x 1@0", "UnknownName"), ("dim x 1@6", "UnknownName"), ("turned x y", "UnknownName"),
            ("turned x f", "UnknownName"), ("dual x f", "UnknownName"), ("beside f x g", "UnknownName"),
            ("beside x f g", "UnknownName"), ("beside x y z", "UnknownName"), ("beside f g h", "NameTaken"),
            ("beside f g f", "NameTaken"), ("turned f g", "NameTaken"), ("turned f f", "NameTaken"),
            ("dual f f", "NameTaken"), ("row f 2: 1", "NameTaken"), ("beside f g x", "UnlikeRows"),
            ("beside f h x", "UnlikeRows"), ("dim f 1@2", "NotFitting"), ("dim h left(1@1)", "NotFitting"),
            ("same - 1@0 = 1@1", "NotFitting"), ("same > 1@0 = 1@1", "UnlikePlaces"),
            ("within > 1@1 <= 1@0", "UnlikePlaces"), ("within > 1@1 <= 1@2", "NotFitting"),
            ("plain - 1@1", "NotFitting"), ("plain <<<<< 1@6", "NotFitting"),
        ):
            self.same(console(line), f"! {answer}")
            self.same(kept(console), before)
        console.run(["row x 5: 4 > 0; -", "row y 5: 3 > 6; " + ", ".join(["0 0 0 0 0 0"] * 3)])
        self.same(console.run(["beside x y z", "beside y x z", "beside x x f", "names"]),
                  ["! TooLarge", "! TooLarge", "! NameTaken", "abcdefgh f g h x y"])
        self.same(Console()("undo"), "! NothingToUndo")

    def test_running_up_to_a_wrong_line(self):
        for wrong in things() + ["row a", 7, ["row a 2: 1"], ("undo",)]:
            console = Console()
            self.refuses(InvalidLine, wrong, console.run, ["row a 2: 1", "show x", "turned a b", wrong, "drop a", None])
            self.same(kept(console), [("a", "2: 1"), ("b", "2: 1")])
            self.refuses(InvalidLine, wrong, console.run, lines=[wrong])
            self.same(console.run(("undo", "names")), ["ok", "a"])
        self.same(Console().run([]), [])
        self.same(Console().run(()), [])
        found = self.keeps_arguments(lambda lines: Console().run(lines), ["row a 2: 1", "names"])
        self.same(found, ["ok", "a"])

    def test_what_is_no_list_of_lines(self):
        for wrong in things() + [0, 1, "undo", "names", {0: "undo"}, {"undo": 1}]:
            console = Console()
            self.refuses(InvalidLine, wrong, console.run, wrong)
            self.refuses(InvalidLine, wrong, console.run, lines=wrong)


RIGHT = SOME + [
    "beside f f x", "turned f y", "dual f z", "drop f", "undo", "names", "show g", "bars g", "dim g 1@0",
    "dim g right(1@0) & left(1@2)", "same > right(1@0) = 1@1", "same - 1@0 & 0@0 = 0@0", "within > 0@1 <= right(1@0)",
    "within - 1@0 + 0@0 <= 1@0", "plain > right(1@0) + 0@1", "plain - 1@0", "plain <<<<<< 1@6",
]


def wrong_lines():
    wrong = things() + [0, 1, [], ["undo"], ("undo",), {"undo": 1}, "", " ", "\n", "ok", "Undo", "UNDO", "exit", "-"]
    for line in RIGHT:
        words = line.split(" ")
        wrong += [f" {line}", f"{line} ", f"{line}\n", f"\n{line}", f"{line} x", f"{line} -", f"{line};", f"{line})"]
        wrong += [line.upper(), line.capitalize(), f"{line} {line}", line[:-1] + "\n"]
        for at in range(len(words) - 1):
            wrong.append(" ".join(words[:at + 1]) + "  " + " ".join(words[at + 1:]))
        for at in range(1, len(words)):
            wrong += [" ".join(words[:at]) + " ", " ".join(words[at:])]
        wrong += [" ".join(words[:1] + words)] + words[:1] * (len(words) > 1)
    return wrong + lines_with_wrong_parts()


def lines_with_wrong_parts():
    wrong = []
    for name in ("", "A", "aB", "a1", "a_b", "a-b", "abcdefghi", "abcdefghij", "1", "-", "a.", "a,b", "f;", "f\n", ">"):
        wrong += [f"row {name} 2: 1", f"drop {name}", f"show {name}", f"bars {name}", f"dim {name} 1@0"]
        wrong += [f"turned {name} x", f"turned f {name}", f"dual {name} x", f"dual f {name}"]
        wrong += [f"beside {name} f x", f"beside f {name} x", f"beside f f {name}"]
    for pattern in ("", ">>>>>>>", "><-", "--", "a", "=", ">=", "0", "f", ">\n"):
        wrong += [f"same {pattern} 1@0 = 1@0", f"within {pattern} 1@0 <= 1@0", f"plain {pattern} 1@0"]
    for row in ("", "5", "5:", "5: ", "5: 7", "4: 1", "5: 1 > 1", "5: 1 > 1; 5", "5: 1 > 1; 1;", "5: 1 > 1; 1; 1", "f",
                "5: 1 > 1;1", "5: 01", "5: 1 > 2; 1, 1", "5: 0 > 1; 1", "5: 1 = 1; 1", "5:1", "05: 1", "5: 1 > 0; 0"):
        wrong.append(f"row x {row}")
    for word in ("", "1", "1@", "1@7", "2@0", "@0", "(1@0)", "1@0 +", "1@0 + + 1@0", "right(1@0", "right 1@0", "f",
                 "1@0+1@0", "right(1@6)", "left(1@0)", "1@0 + 1@1", "(1@0 + 1@0) + 1@0", "1@0 & (0@0)", "1@0 = 1@0"):
        wrong += [f"dim f {word}", f"plain > {word}", f"same > {word} = 1@0", f"same > 1@0 = {word}"]
        wrong += [f"within > {word} <= 1@0", f"within > 1@0 <= {word}"]
    wrong += ["same > 1@0 <= 1@0", "within > 1@0 = 1@0", "same > 1@0 == 1@0", "same > 1@0 =1@0", "same > 1@0= 1@0"]
    wrong += ["within > 1@0 < 1@0", "within > 1@0 <=1@0", "within > 1@0 =< 1@0", "same > 1@0 1@0", "same 1@0 = 1@0"]
    wrong += ["same > 1@0 = 1@0 = 1@0", "within > 1@0 <= 1@0 <= 1@0", "same > 1@0", "within > 1@0", "same >", "plain >"]
    return wrong + ["beside f f", "beside f f x y", "turned f", "dual f", "drop f g", "undo 1", "names -", "show f g"]


class Wrong(RowTest):

    def test_right_lines(self):
        console = Console()
        for line in RIGHT:
            self.assertIs(type(console(line)), str)

    def test_what_is_no_line(self):
        console = started()
        before = kept(console)
        lines = wrong_lines()
        self.assertGreater(len(lines), 700)
        for wrong in lines:
            with self.subTest(wrong=wrong):
                self.refuses(InvalidLine, wrong, console, wrong)
        self.same(kept(console), before)
        self.same(console.run(["undo", "names"]), ["ok", "f g h"])

    def test_wrong_lines_come_ahead_of_names(self):
        console = Console()
        for wrong in ("turned x Y", "beside x y Z", "dim x 1@7", "row f 4: 1", "show x y", "same > 1@1 = 1@7"):
            self.refuses(InvalidLine, wrong, console, wrong)
            self.refuses(InvalidLine, wrong, console, line=wrong)
            self.refuses(InvalidLine, wrong, console.run, [wrong])

    def test_too_many_open_brackets(self):
        for command in ("plain ><><>< ", "dim x ", "same ><><>< 1@0 = "):
            text = "right(left(" * 31 + "1@0" + "))" * 31
            line = command + text
            self.refuses(InvalidLine, line, Console(), line)


if __name__ == "__main__":
    unittest.main()
