"""Points 40 to 42: words, their texts, and what is made of them."""

import unittest

from helps import (
    GREAT, RowTest, all_patterns, most_open, sequence, shape, small_words, some_word, things, wrong_patterns,
    wrong_places,
)
from maprows.errors import InvalidPattern, InvalidPlace, InvalidText, UnlikePlaces
from maprows.words import Word, carried

# Words of the greatest size: 24 signs 0 and 1, 40 times right or left, and up to 60 brackets open at one place.
GREATEST = [
    "left(right(" * 20 + "0@0 + 1@0" + " & 1@0" * 22 + "))" * 20,
    "1@3 + (" * 20 + "1@3 + " + "left(right(" * 20 + "1@3 & 0@3 + 1@3" + "))" * 20 + ")" * 20,
    "1@3 & (" * 20 + "1@3 & " + "right(left(" * 20 + "0@3 + 1@3 + 1@3" + "))" * 20 + ")" * 20,
    "(" * 11 + "1@6" + " + 0@6) & 1@6" * 11 + " + 1@6",
    "1@5 + 0@5 & (" * 11 + "1@5 + 1@5" + ")" * 11,
]


def greatest_words():
    numbers = sequence(41)
    words = [Word.read(text) for text in GREATEST]
    while len(words) < 60:
        word = some_word(numbers, next(numbers) % 7, 24, 40)
        if most_open(word.text()) <= 60:
            words.append(word)
    return words


class Making(RowTest):

    def test_ground_words(self):
        for place in range(7):
            for word, sign in ((Word.none(place), "0"), (Word.whole(place=place), "1")):
                self.same([word.sign, word.place, word.parts, word.reach], [sign, place, (), (place, place)])
                self.same([word.text(), len(word)], [sign + "@" + str(place), 1])

    def test_sums_and_meets(self):
        one, other = Word.whole(2), Word.none(1).right()
        for word, sign in ((one + other, "+"), (one & other, "&")):
            self.same([word.sign, word.place, word.reach, len(word)], [sign, 2, (1, 2), 2])
            self.assertEqual(len(word.parts), 2)
            self.assertTrue(word.parts[0] == one and word.parts[1] == other)
            self.assertIs(type(word.parts), tuple)

    def test_right_and_left(self):
        for place in range(7):
            word = Word.whole(place)
            if place < 6:
                led = word.right()
                self.same([led.sign, led.place, led.reach, len(led)], ["right", place + 1, (place, place + 1), 1])
                self.assertTrue(led.parts[0] == word and len(led.parts) == 1)
            if place > 0:
                led = word.left()
                self.same([led.sign, led.place, led.reach, len(led)], ["left", place - 1, (place - 1, place), 1])
                self.assertTrue(led.parts[0] == word and len(led.parts) == 1)

    def test_reach_and_length(self):
        word = (Word.whole(3).left().left() + Word.none(0).right()) & Word.whole(1)
        self.same([word.place, word.reach, len(word)], [1, (0, 3), 3])
        word = word.right().right().right()
        self.same([word.place, word.reach, len(word)], [4, (0, 4), 3])
        self.same((Word.whole(6).left() & Word.whole(4).right()).reach, (4, 6))
        self.same(carried(Word.whole(0), 6).reach, (0, 6))
        self.same(Word.read("left(right(0@4))").reach, (4, 5))

    def test_what_it_tells_cannot_be_set(self):
        for name in ("sign", "place", "parts", "reach"):
            with self.assertRaises(AttributeError):
                setattr(Word.whole(0), name, None)

    def test_beyond_the_ends(self):
        for word in (Word.whole(6), Word.none(6), Word.whole(5).right() + Word.none(6)):
            self.assertEqual(self.raised(word.right).value, 7)
            self.assertIs(type(self.raised(word.right)), InvalidPlace)
        for word in (Word.whole(0), Word.none(0), Word.whole(1).left() & Word.none(0)):
            self.assertEqual(self.raised(word.left).value, -1)
            self.assertIs(type(self.raised(word.left)), InvalidPlace)

    def test_wrong_places(self):
        for make in (Word.none, Word.whole):
            self.refuses_in_order(make, {"place": 3}, [("place", InvalidPlace, wrong_places(0, 6))])

    def test_unlike_places(self):
        for one in range(7):
            for other in range(7):
                if one != other:
                    self.refuses_plainly(UnlikePlaces, lambda: Word.whole(one) + Word.none(other))
                    self.refuses_plainly(UnlikePlaces, lambda: Word.whole(one) & Word.none(other))
        self.refuses_plainly(UnlikePlaces, lambda: Word.whole(0) + Word.whole(0).right())

    def test_equality_is_that_of_texts(self):
        words = small_words(1, 3, 1) + [Word.whole(at) for at in range(7)]
        for one in words[::3]:
            for other in words[::7]:
                self.assertIs(one == other, one.text() == other.text())
                self.assertIs(one != other, one.text() != other.text())
        for thing in things() + [0, "1@3", Word.whole(3).text(), (Word.whole(3),), [Word.whole(3)]]:
            self.assertFalse(Word.whole(3) == thing)
            self.assertTrue(Word.whole(3) != thing)
        one, other = Word.whole(1), Word.none(1)
        self.assertFalse(one + (other + one) == one + other + one)
        self.assertTrue((one + other) + one == one + other + one)
        self.assertFalse(one + other == other + one)


class Texts(RowTest):

    def test_brackets(self):
        a, b, c = Word.none(1), Word.whole(0).right(), Word.whole(2).left()
        self.same((a + (b & c)).text(), "0@1 + right(1@0) & left(1@2)")
        self.same(((a + b) & c).text(), "(0@1 + right(1@0)) & left(1@2)")
        self.same(((a + b) + c).text(), "0@1 + right(1@0) + left(1@2)")
        self.same((a + (b + c)).text(), "0@1 + (right(1@0) + left(1@2))")
        self.same(((a & b) & c).text(), "0@1 & right(1@0) & left(1@2)")
        self.same((a & (b & c)).text(), "0@1 & (right(1@0) & left(1@2))")
        self.same(((a & b) + c).text(), "0@1 & right(1@0) + left(1@2)")
        self.same((a & (b + c)).text(), "0@1 & (right(1@0) + left(1@2))")
        self.same(((a & b) + (c & a)).text(), "0@1 & right(1@0) + left(1@2) & 0@1")
        self.same(((a + b) & (c + a)).text(), "(0@1 + right(1@0)) & (left(1@2) + 0@1)")
        self.same((a + b).right().text(), "right(0@1 + right(1@0))")
        self.same(((a & b).left() + Word.none(0)).text(), "left(0@1 & right(1@0)) + 0@0")

    def test_unlike_words_have_unlike_texts(self):
        words = small_words(1, 3, 1) + small_words(0, 4, 0)
        shapes = {shape(word) for word in words}
        self.assertEqual(len({word.text() for word in words}), len(shapes))

    def test_no_brackets_could_be_left_out(self):
        tried = 0
        for word in small_words(1, 3, 1) + small_words(0, 4, 0):
            text = word.text()
            for first, last in groups(text):
                left_out = text[:first] + text[first + 1:last] + text[last + 1:]
                self.assertNotEqual(shape(Word.read(left_out)), shape(word))
                tried += 1
        self.assertGreater(tried, 500)

    def test_texts_are_read(self):
        for word in small_words(1, 3, 1) + small_words(0, 4, 0) + small_words(6, 2, 3):
            found = Word.read(word.text())
            self.assertTrue(found == word)
            self.assertEqual(shape(found), shape(word))
            self.same([found.place, found.reach, len(found)], [word.place, word.reach, len(word)])
        self.same(Word.read(text="right(1@0)").sign, "right")

    def test_some_other_texts_are_refused(self):
        wrong = things() + [0, 1, GREAT, [], ["1@0"], ("1@0",), {"1@0": "1@0"}, [Word.whole(0)], (Word.whole(0),)]
        wrong += ["1", "@", "1@", "@0", "2@0", "1@7", "1@-1", "1@00", "01@0", "1 @0", "1@ 0", " 1@0", "1@0 ", "1@0\n"]
        wrong += ["-1@0", "+1@0", "1@+0", "11@0", "1@10", "(1@0)", "((1@0))", "()", "(", ")", "1@0)", "(1@0", "1@a"]
        wrong += ["1@0+1@0", "1@0 +1@0", "1@0+ 1@0", "1@0  + 1@0", "1@0 +  1@0", "1@0 + ", " + 1@0", "+", "&", "1@0 +"]
        wrong += ["1@0 + + 1@0", "1@0 & & 1@0", "1@0 + & 1@0", "1@0 1@0", "1@01@0", "1@0 | 1@0", "1@0 - 1@0"]
        wrong += ["1@0 + (0@0)", "(1@0 + 0@0)", "(1@0 + 0@0) + 1@0", "(1@0 & 0@0) + 1@0", "1@0 + (0@0 & 1@0)"]
        wrong += ["(1@0 & 0@0) & 1@0", "(right(1@0)) & 1@1", "right((1@0))", "right((1@0 + 0@0))", "right (1@0)"]
        wrong += ["right( 1@0)", "right(1@0 )", "right(1@0", "right1@0", "right 1@0", "right()", "right", "Right(1@0)"]
        wrong += ["RIGHT(1@0)", "up(1@0)", "rightleft(1@0)", "right(left(1@0))", "right(1@6)", "left(1@0)", "left()"]
        wrong += ["1@0 + 1@1", "1@0 & right(1@0)", "right(1@0 + 1@1)", "left(right(1@6))", "right(1@0)right(1@0)"]
        wrong += ["right(1@0) (1@1)", "1@0 (+ 1@0)", "(1@0 +) 1@0", "1@0 + )1@0(", "right)1@0(", "1@0()", "()1@0"]
        wrong += ["1@0 * 1@0", "0@0,", "0@0;", "'0@0'", "0@0.0", "1@1e0"]
        wrong += ["0 @ 0", "O@0", "l@0", "1@0\t+ 1@0", "1@0 +\n1@0"]
        wrong += ["x", " ", "\n", "right(\n1@0)", "1" * 1000, "(" * 1000, ")" * 1000, "1@0" * 300, "1@0 + " * 160]
        wrong += ["right(" * 160]
        for text in wrong:
            with self.subTest(text=text):
                self.refuses(InvalidText, text, Word.read, text)
                self.refuses(InvalidText, text, Word.read, text=text)

    def test_no_other_text_near_a_right_one_is_read(self):
        texts = ["right(1@0) & (left(1@2) + 0@1)", "0@0 + (1@0 + 0@0) & 1@0 & (0@0 & 1@0)", "left(left(0@6) & 1@5)"]
        read = 0
        for text in texts:
            for at in range(len(text) + 1):
                for more in ("", " ", "0", "1", "@", "(", ")", "+", "&", "r", "right(", " + ", "(0@1)"):
                    for gone in (0, 1, 2):
                        put = text[:at] + more + text[at + gone:]
                        try:
                            word = Word.read(put)
                        except InvalidText as error:
                            self.assertIs(error.value, put)
                            self.assertNotEqual(put, text)
                        else:
                            self.same(word.text(), put)
                            self.assertEqual(shape(word), shape(Word.read(word.text())))
                            read += 1
        self.assertGreater(read, 100)

    def test_long_texts(self):
        text = "1@0" + " + 1@0" * 100
        self.same([len(Word.read(text)), Word.read(text).text() == text], [101, True])
        text = "1@5" + " & right(0@4)" * 70
        self.same([len(Word.read(text)), Word.read(text).reach, Word.read(text).text() == text], [71, (4, 5), True])


def groups(text):
    """The places of the brackets of a text that are not those of right and left, in pairs."""
    opened, found = [], []
    for at, sign in enumerate(text):
        if sign == "(":
            opened.append(at)
        elif sign == ")":
            first = opened.pop()
            if first == 0 or not text[first - 1].isalpha():
                found.append((first, at))
    return found


class ManyBrackets(RowTest):

    def test_sixty_brackets(self):
        texts = ["right(left(" * 30 + "1@1" + "))" * 30, "1@6 + (" * 60 + "0@6 + 1@6" + ")" * 60]
        texts += GREATEST[1:3]
        texts += ["1@1 + right(left(" * 30 + "1@1" + "))" * 30]
        for text in texts:
            self.assertEqual(most_open(text), 60)
            self.same(Word.read(text).text(), text)

    def test_more_than_sixty_brackets(self):
        for many in (61, 62, 75, 100):
            texts = ["(" * many, "(" * many + "1@0" + ")" * many, "right(" * many + "1@0" + ")" * many]
            texts += ["(" * many + "1@0" + " & 1@0)" * many, "1@0 & " + "(" * many + "1@0 + 1@0" + ")" * many]
            texts += [("left(right(" * many)[:11 * (many // 2)] + "1@0" + "))" * (many // 2)] * (many != 61)
            texts += ["1@0 + (" * many + "1@0 + 1@0" + ")" * many, "0@3 & (" * many + "0@3 & 1@3" + ")" * many]
            for text in texts:
                if len(text) <= 1000:
                    with self.subTest(text=text):
                        self.assertGreater(most_open(text), 60)
                        self.refuses(InvalidText, text, Word.read, text)

    def test_what_was_returned_is_read(self):
        for word in greatest_words():
            made = [word, word.dual(), word.turned(6), word + word, word & word, word + (word & word)]
            made += [word.dual().turned(6)] + [carried(word, place) for place in (0, 6)]
            made += [carried(word.dual() + word, 3).dual(), carried(carried(word, 6), 0)]
            for other in made:
                self.assertEqual(shape(Word.read(other.text())), shape(other))

    def test_a_bracket_more_than_sixty(self):
        more = 0
        for text in GREATEST[1:3]:
            word = Word.read(text)
            for made in (word.right(), carried(word, 6), Word.none(word.place) + word, Word.none(word.place) & word,
                         carried(word, 6).dual(), Word.none(word.place) & word.dual(), carried(carried(word, 6), 3)):
                found = Word.read(made.text())
                self.assertEqual(shape(found), shape(made))
                more += most_open(made.text()) > 60
        self.assertGreater(more, 8)

    def test_long_texts_that_were_returned_are_read_however_many_brackets_are_open(self):
        for many in (80, 150, 400):
            word = other = Word.whole(3)
            for _ in range(many):
                word = word.right().left()
                other = Word.whole(3) & (Word.none(3) & other)
            for made in (word, other, word + other):
                self.assertGreater(len(made.text()), 1000)
                self.assertGreater(most_open(made.text()), 150)
                found = Word.read(made.text())
                self.assertTrue(found == made)
                self.same([len(found), found.reach], [len(made), made.reach])


class GreatWords(RowTest):

    def test_words_of_the_greatest_size(self):
        for word in greatest_words():
            self.assertEqual(len(word), word.text().count("@"))
            self.assertTrue(Word.read(word.text()) == word)
            self.assertTrue(word.dual().dual() == word)
            self.assertTrue(word.turned(6).turned(6) == word)
            self.assertIs(word.fits(">" * 6), True)
            self.assertEqual(carried(word, 0).place, 0)

    def test_great_words_have_the_greatest_size(self):
        words = greatest_words()
        self.assertEqual(max(len(word) for word in words), 24)
        self.assertEqual(max(word.text().count("right") + word.text().count("left") for word in words), 40)
        self.assertEqual(max(most_open(word.text()) for word in words), 60)


class Fitting(RowTest):

    def test_fits(self):
        words = [Word.whole(0), Word.whole(6), Word.whole(2).left().left(), Word.whole(0).right() & Word.none(1)]
        words += [Word.read("left(left(1@2) + 1@1)"), Word.read("right(0@3 + left(right(left(1@4))))")]
        for word in words:
            for pattern in all_patterns(6)[::3] + [">" * k for k in range(7)]:
                self.assertIs(word.fits(pattern), word.reach[1] <= len(pattern))
        self.assertIs(Word.read("left(left(1@2))").fits("<"), False)
        self.assertIs(Word.read("left(left(1@2))").fits(pattern="<>"), True)

    def test_wrong_patterns(self):
        for word in (Word.whole(0), Word.whole(6), Word.none(2) + Word.whole(1).right()):
            for wrong in wrong_patterns():
                self.refuses(InvalidPattern, wrong, word.fits, wrong)
                self.refuses(InvalidPattern, wrong, word.fits, pattern=wrong)


class Turning(RowTest):

    def test_turned(self):
        word = Word.read("right(1@0 + left(0@1)) & left(1@2)")
        self.same(word.turned(2).text(), "left(1@2 + right(0@1)) & right(1@0)")
        self.same(word.turned(k=5).text(), "left(1@5 + right(0@4)) & right(1@3)")
        self.same([word.turned(5).place, word.turned(5).reach, len(word.turned(5))], [4, (3, 5), 3])
        self.same(Word.none(0).turned(0).text(), "0@0")
        self.same(Word.whole(0).turned(6).text(), "1@6")

    def test_each_place_and_sign(self):
        numbers = sequence(42)
        for at in range(150):
            most = next(numbers) % 7
            word = some_word(numbers, next(numbers) % (most + 1), 1 + at % 9, at % 13, most)
            for k in range(word.reach[1], 7):
                self.assertEqual(shape(word.turned(k)), turned_shape(shape(word), k))
                self.assertTrue(word.turned(k).turned(k) == word)

    def test_wrong_numbers_of_arrows(self):
        for text in ("1@0", "left(left(1@2))", "right(0@3 & right(1@2))", "1@6", "right(right(1@4)) + 0@6"):
            word = Word.read(text)
            for wrong in wrong_places(word.reach[1], 6):
                with self.subTest(text=text, wrong=wrong):
                    self.refuses(InvalidPlace, wrong, word.turned, wrong)
                    self.refuses(InvalidPlace, wrong, word.turned, k=wrong)

    def test_dual(self):
        self.same(Word.read("right(1@0 + left(0@1)) & left(1@2)").dual().text(), "right(0@0 & left(1@1)) + left(0@2)")
        self.same(Word.read("(1@0 + 0@0) & 1@0").dual().text(), "0@0 & 1@0 + 0@0")
        numbers = sequence(43)
        for at in range(150):
            word = some_word(numbers, next(numbers) % 7, 1 + at % 9, at % 13)
            self.assertEqual(shape(word.dual()), dual_shape(shape(word)))
            self.assertTrue(word.dual().dual() == word)
            self.same([word.dual().place, word.dual().reach, len(word.dual())], [word.place, word.reach, len(word)])

    def test_carried(self):
        word = Word.read("1@3 + right(0@2)")
        self.same([carried(word, place).text() for place in range(7)], [
            "left(left(left(1@3 + right(0@2))))", "left(left(1@3 + right(0@2)))", "left(1@3 + right(0@2))",
            "1@3 + right(0@2)", "right(1@3 + right(0@2))", "right(right(1@3 + right(0@2)))",
            "right(right(right(1@3 + right(0@2))))",
        ])
        for place in range(7):
            for other in range(7):
                led = carried(word=Word.none(place), place=other)
                self.same([led.place, led.reach], [other, (min(place, other), max(place, other))])
                self.assertEqual(len(led.text()), 3 + (7 if other > place else 6) * abs(other - place))

    def test_wrong_places_to_carry_to(self):
        for word in (Word.whole(0), Word.whole(6), Word.none(3).left()):
            self.refuses_in_order(lambda place: carried(word, place), {"place": 2}, [
                ("place", InvalidPlace, wrong_places(0, 6)),
            ])

    def test_words_stay_as_they_were(self):
        word = Word.read("right(1@0 + left(0@1)) & left(1@2)")
        before, parts = shape(word), word.parts
        led = (word.right(), word.left(), carried(word, 6))
        for made in (word + word, word & word, word.turned(2), word.dual(), *led):
            self.assertNotEqual(shape(made), before)
        self.assertEqual(shape(word), before)
        self.assertEqual([shape(part) for part in parts], [shape(part) for part in word.parts])


def turned_shape(told, k):
    sign, place, parts = told
    sign = {"right": "left", "left": "right"}.get(sign, sign)
    return (sign, k - place, tuple(turned_shape(part, k) for part in parts))


def dual_shape(told):
    sign, place, parts = told
    sign = {"+": "&", "&": "+", "0": "1", "1": "0"}.get(sign, sign)
    return (sign, place, tuple(dual_shape(part) for part in parts))


if __name__ == "__main__":
    unittest.main()
