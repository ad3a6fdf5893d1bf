"""Consoles: lines that keep rows under names, and lines that ask about rows and words."""

from maprows.errors import InvalidLine, InvalidText, NameTaken, NothingToUndo, RowError, UnknownName
from maprows.plain import breach, parting, plain
from maprows.rests import is_list
from maprows.rows import bars, is_pattern, read_row
from maprows.threads import numbers
from maprows.words import Word, value

LETTERS = "abcdefghijklmnopqrstuvwxyz"
LONGEST_NAME = 8

DONE = "ok"


def _name(text):
    """A name that a line tells; raises InvalidText, as all that reads a part of a line."""
    if not (1 <= len(text) <= LONGEST_NAME and all([sign in LETTERS for sign in text])):
        raise InvalidText(text)
    return text


def _pattern(text):
    if text == "-":
        return ""
    if text == "" or not is_pattern(text):
        raise InvalidText(text)
    return text


def _row(text):
    return read_row(text)


def _word(text):
    return Word.read(text)


def _equation(text):
    return _two_words(text, " = ")


def _inclusion(text):
    return _two_words(text, " <= ")


def _two_words(text, sign):
    # No text of a word contains these signs.
    one, _, other = text.partition(sign)
    return Word.read(one), Word.read(other)


# How each kind of what stands in a line is read.
READERS = {
    "name": _name, "pattern": _pattern, "row": _row, "word": _word, "equation": _equation, "inclusion": _inclusion,
}

# For each line what stands behind its first word.
FORMS = {
    "row": ("name", "row"),
    "beside": ("name", "name", "name"),
    "turned": ("name", "name"),
    "dual": ("name", "name"),
    "drop": ("name",),
    "undo": (),
    "names": (),
    "show": ("name",),
    "bars": ("name",),
    "dim": ("name", "word"),
    "same": ("pattern", "equation"),
    "within": ("pattern", "inclusion"),
    "plain": ("pattern", "word"),
}


def _beside(one, other):
    return one + other


def _turned(row):
    return row.turned()


def _dual(row):
    return row.dual()


# Lines that make a row of kept ones and keep it under the name that stands last.
MADE = {"beside": _beside, "turned": _turned, "dual": _dual}


def _shown(row):
    return row.text()


def _bars_of(row):
    counts = numbers(row)
    return _listed([f"{_bar_text(bar)}*{counts[bar]}" for bar in bars(row.pattern) if counts[bar] > 0])


def _dimension(row, word):
    return str(len(value(word, row)))


# Lines that ask about the row whose name stands first.
ASKED = {"show": _shown, "bars": _bars_of, "dim": _dimension}


def _same(pattern, words):
    one, other = words
    return _yes_or_bar(parting(pattern, one, other))


def _within(pattern, words):
    one, other = words
    return _yes_or_bar(breach(pattern, one, other))


def _plain(pattern, word):
    return plain(pattern, word).text()


# Lines that ask about words alone.
MEANT = {"same": _same, "within": _within, "plain": _plain}


def _yes_or_bar(bar):
    return "yes" if bar is None else _bar_text(bar)


def _bar_text(bar):
    first, last = bar
    return f"{first}-{last}"


def _listed(words):
    return " ".join(words) if len(words) > 0 else "-"


class Console:
    """Keeps rows under names, and executes lines."""

    def __init__(self):
        self._rows = {}
        # For each line that can be taken back a name, and the row that was kept under it ahead of the line, or None.
        self._past = []

    def __call__(self, line):
        return self._executed(line)

    def run(self, lines):
        """The answers to a list of lines that are executed one after another."""
        if not is_list(lines):
            raise InvalidLine(lines)
        return [self._executed(line) for line in lines]

    def _executed(self, line):
        command, told = _read(line)
        try:
            return self._answer(command, told)
        except RowError as error:
            failure = error.__class__.__name__
            return f"! {failure}"

    def _answer(self, command, told):
        if command == "names":
            return _listed(sorted(self._rows))
        if command == "undo":
            return self._undo()
        if command in MEANT:
            act = MEANT[command]
            return act(*told)
        if command in ASKED:
            act = ASKED[command]
            name, *more = told
            row = self._kept(name)
            return act(row, *more)
        return self._change(command, told)

    def _change(self, command, told):
        if command == "drop":
            return self._drop(told[0])
        if command == "row":
            name, row = told
            self._check_free(name)
            return self._keep(name, row)
        *names, name = told
        rows = [self._kept(kept) for kept in names]
        self._check_free(name)
        act = MADE[command]
        return self._keep(name, act(*rows))

    def _kept(self, name):
        """The row that is kept under a name."""
        if name not in self._rows:
            raise UnknownName(name)
        return self._rows[name]

    def _check_free(self, name):
        if name in self._rows:
            raise NameTaken(name)

    def _keep(self, name, row):
        self._past.append((name, None))
        self._rows[name] = row
        return DONE

    def _drop(self, name):
        self._past.append((name, self._kept(name)))
        del self._rows[name]
        return DONE

    def _undo(self):
        if len(self._past) == 0:
            raise NothingToUndo()
        name, row = self._past.pop()
        if row is None:
            del self._rows[name]
        else:
            self._rows[name] = row
        return DONE


def _read(line):
    """The first word of a line, and a list of what stands behind it."""
    if not isinstance(line, str):
        raise InvalidLine(line)
    command = line.partition(" ")[0]
    kinds = FORMS.get(command, ())
    # Only what stands last may have spaces in it.
    texts = line.split(" ", len(kinds))
    if command not in FORMS or texts[0] != command or len(texts) != len(kinds) + 1:
        raise InvalidLine(line)
    try:
        return command, [_read_as(kind, text) for kind, text in zip(kinds, texts[1:])]
    except InvalidText:
        raise InvalidLine(line) from None


def _read_as(kind, text):
    reader = READERS[kind]
    return reader(text)
