"""Whole numbers, signs and words of saywell.words."""

import unittest

from saywell.words import is_figure, is_letter, is_plain, is_small, is_whole_number, is_word

SMALL = "abcdefghijklmnopqrstuvwxyz"
GREAT = "ABCDEFGHIJKLMNOPQRSTUVWXYZ"
FIGURES = "0123456789"

# Every sign that a text may have, some beyond, and letters and figures of other writings.
SIGNS = [chr(number) for number in range(0, 256)] + list(
    "\u0101\u0131\u017f\u0391\u03b1\u0430\u0435\u0663\u0966\u2028\u2070\uff10\uff21\uff41\U0001d41a\U0001d7ce"
)

# One of each sort that no word has; the back-quote and the brace stand beside a to z in order.
STRANGE = ["A", "Z", "E", "0", "9", " ", "\n", "\t", "\r", "\0", "`", "{", "@", "[", "_", "-", "=", "'",
           "\xe9", "\xdf", "\u0131", "\u0430", "\uff41", "\u0301"]


class TestIsWord(unittest.TestCase):
    def assert_word(self, thing):
        with self.subTest(thing):
            self.assertIs(is_word(thing), True)

    def assert_no_word(self, thing):
        with self.subTest(thing):
            self.assertIs(is_word(thing), False)

    def test_one_letter(self):
        for letter in SMALL:
            self.assert_word(letter)

    def test_each_length_from_one_to_eight(self):
        for length in range(1, 9):
            self.assert_word("abcdefgh"[:length])
            self.assert_word("z" * length)

    def test_each_letter_at_each_place(self):
        for letter in SMALL:
            for place in range(8):
                self.assert_word("m" * place + letter + "m" * (7 - place))

    def test_common_ones(self):
        for word in ("n", "key", "one", "few", "many", "other", "tile", "messages"):
            self.assert_word(word)

    def test_else_is_none(self):
        self.assert_no_word("else")
        self.assert_no_word("el" + "se")

    def test_words_near_else(self):
        for word in ("e", "el", "els", "lse", "elsa", "elsee", "elses", "elseif", "aelse", "esle", "elseelse"):
            self.assert_word(word)

    def test_the_text_without_signs(self):
        self.assert_no_word("")

    def test_nine_letters_and_more(self):
        self.assert_no_word("abcdefghi")
        for length in (9, 10, 16, 4000):
            self.assert_no_word("a" * length)

    def test_one_strange_sign_alone(self):
        for sign in STRANGE:
            self.assert_no_word(sign)

    def test_one_strange_sign_put_in(self):
        for word in ("a", "tile", "abcdefg"):
            for sign in STRANGE:
                for place in range(len(word) + 1):
                    self.assert_no_word(word[:place] + sign + word[place:])

    def test_one_sign_changed(self):
        for word in ("a", "tile", "abcdefgh"):
            for sign in STRANGE:
                for place in range(len(word)):
                    self.assert_no_word(word[:place] + sign + word[place + 1:])

    def test_else_in_great_letters_or_with_a_sign_behind(self):
        for text in ("Else", "ELSE", "else ", " else", "else\n"):
            self.assert_no_word(text)

    def test_every_sign_alone(self):
        for sign in SIGNS:
            with self.subTest(sign):
                self.assertIs(is_word(sign), sign in SMALL)

    def test_things_of_other_kinds(self):
        things = [0, 1, 7, -1, 10 ** 60, True, False, None, [], ["tile"], ["t", "i"], (), ("tile",), ("t", "i"),
                  {}, {"tile": 1}, {"t": "i"}, b"tile", 1.5, {"tile"}, frozenset(["tile"]), object(), str, len]
        for thing in things:
            self.assert_no_word(thing)

    def test_what_is_handed_in_stays(self):
        words = ["tile"]
        table = {"tile": ["one"]}
        is_word(words)
        is_word(table)
        self.assertEqual(words, ["tile"])
        self.assertEqual(table, {"tile": ["one"]})


class TestIsWholeNumber(unittest.TestCase):
    def test_whole_numbers(self):
        for number in (0, 1, -1, 7, 300, 10 ** 59, 10 ** 60, -(10 ** 60)):
            with self.subTest(number):
                self.assertIs(is_whole_number(number), True)

    def test_truths_are_none(self):
        self.assertIs(is_whole_number(True), False)
        self.assertIs(is_whole_number(False), False)

    def test_things_of_other_kinds(self):
        for thing in (None, "", "1", "one", [], [1], (), (1,), {}, {1: 1}, 1.0):
            with self.subTest(thing):
                self.assertIs(is_whole_number(thing), False)


class TestSigns(unittest.TestCase):
    def assert_just(self, asked, members):
        for sign in SIGNS:
            with self.subTest(sign):
                self.assertIs(asked(sign), sign in members)

    def test_small(self):
        self.assert_just(is_small, SMALL)

    def test_letters(self):
        self.assert_just(is_letter, SMALL + GREAT)

    def test_figures(self):
        self.assert_just(is_figure, FIGURES)

    def test_plain_signs(self):
        self.assert_just(is_plain, " !\"#$&'()*+,-./0123456789:;<=>?@" + GREAT + "\\^_`" + SMALL + "|~")

    def test_bounds_of_letters(self):
        for sign in "azAZ":
            self.assertIs(is_letter(sign), True)
        for sign in "`{@[":
            self.assertIs(is_letter(sign), False)

    def test_bounds_of_figures(self):
        for sign in "09":
            self.assertIs(is_figure(sign), True)
        for sign in "/:":
            self.assertIs(is_figure(sign), False)

    def test_bounds_of_plain_signs(self):
        for sign in (" ", "~", "$", "&", "z", "|", "Z", "\\", "^"):
            with self.subTest(sign):
                self.assertIs(is_plain(sign), True)
        for sign in ("\x1f", "\x7f", "{", "}", "[", "]", "%", "\n", "\t", "\x80"):
            with self.subTest(sign):
                self.assertIs(is_plain(sign), False)


if __name__ == "__main__":
    unittest.main()
