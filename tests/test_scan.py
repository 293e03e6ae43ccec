"""Steps along a text of saywell.scan."""

import unittest

from saywell import errors
from saywell.errors import SayError
from saywell.scan import Unread, behind, number_at, plain_at, row_at, stands, word_at
from saywell.words import is_figure, is_small

BOUND = 10 ** 59
PLAIN = "".join([chr(number) for number in range(32, 127) if chr(number) not in "{}[]%"])


class TestUnread(unittest.TestCase):
    def test_it_is_a_refusal_but_none_of_the_named_ones(self):
        self.assertTrue(issubclass(Unread, SayError))
        for name in ("NoPattern", "NoPlace", "NoRules", "NoNumber", "NoDay", "NoTongue", "NoThing", "NoMessage",
                     "NoValue", "Lacking", "TooGreat", "TooMany", "Flawed", "NoWriting"):
            with self.subTest(name):
                self.assertFalse(issubclass(Unread, getattr(errors, name)))


class TestMarks(unittest.TestCase):
    def test_stands(self):
        self.assertIs(stands("{#n}", 0, "{"), True)
        self.assertIs(stands("{#n}", 0, "{#"), True)
        self.assertIs(stands("{#n}", 1, "#"), True)
        self.assertIs(stands("{#n}", 3, "}"), True)

    def test_something_else_stands(self):
        self.assertIs(stands("{#n}", 1, "{"), False)
        self.assertIs(stands("{#n}", 0, "{~"), False)
        self.assertIs(stands("{#n}", 0, "#"), False)

    def test_at_and_over_the_end(self):
        self.assertIs(stands("one", 3, " "), False)
        self.assertIs(stands("one", 2, "ee"), False)
        self.assertIs(stands("one", 1, "ne "), False)
        self.assertIs(stands("", 0, "{"), False)

    def test_behind(self):
        self.assertEqual(behind("{#n}", 0, "{"), 1)
        self.assertEqual(behind("{#n}", 0, "{#"), 2)
        self.assertEqual(behind("a..b", 1, ".."), 3)
        self.assertEqual(behind("{n}", 2, "}"), 3)

    def test_behind_what_is_not_there(self):
        for text, start, mark in (("{n}", 1, "{"), ("{n}", 3, "}"), ("", 0, "{"), ("a.b", 1, ".."), ("a.", 1, "..")):
            with self.subTest(text=text, start=start), self.assertRaises(Unread):
                behind(text, start, mark)


class TestRowAt(unittest.TestCase):
    def test_the_longest_row(self):
        self.assertEqual(row_at("tiles 12", 0, is_small), ("tiles", 5))
        self.assertEqual(row_at("tiles 12", 2, is_small), ("les", 5))
        self.assertEqual(row_at("tiles 12", 6, is_figure), ("12", 8))

    def test_a_row_without_signs(self):
        self.assertEqual(row_at("tiles 12", 5, is_small), ("", 5))
        self.assertEqual(row_at("tiles", 5, is_small), ("", 5))
        self.assertEqual(row_at("", 0, is_small), ("", 0))

    def test_else_is_a_row(self):
        self.assertEqual(row_at("else[x]", 0, is_small), ("else", 4))


class TestWordAt(unittest.TestCase):
    def test_words(self):
        self.assertEqual(word_at("{key}", 1), ("key", 4))
        self.assertEqual(word_at("a", 0), ("a", 1))
        self.assertEqual(word_at("abcdefgh=x", 0), ("abcdefgh", 8))
        self.assertEqual(word_at("theirs=mine", 7), ("mine", 11))
        self.assertEqual(word_at("elsee", 0), ("elsee", 5))

    def test_it_ends_where_the_small_letters_end(self):
        for sign in "`{AZ09 _=[]}:\n\xe9":
            with self.subTest(sign):
                self.assertEqual(word_at("az" + sign + "b", 0), ("az", 2))

    def test_no_word(self):
        for text, start in (("", 0), ("key", 3), (" key", 0), ("Key", 0), ("7", 0), ("`", 0), ("{", 0), ("else", 0),
                            ("else[", 0), ("xelse", 1), ("abcdefghi", 0), ("abcdefghi}", 0), ("\xe9", 0)):
            with self.subTest(text=text, start=start), self.assertRaises(Unread):
                word_at(text, start)


class TestPlainAt(unittest.TestCase):
    def test_all_plain_signs(self):
        self.assertEqual(plain_at(PLAIN, 0), (PLAIN, 90))

    def test_from_a_place_on(self):
        self.assertEqual(plain_at("a tile{n}", 1), (" tile", 6))
        self.assertEqual(plain_at("{n} tiles", 3), (" tiles", 9))
        self.assertEqual(plain_at("~", 0), ("~", 1))

    def test_it_ends_where_the_plain_signs_end(self):
        for sign in "{}[]%\x1f\x7f\n\t\xe9":
            with self.subTest(sign):
                self.assertEqual(plain_at("a ~" + sign + "b", 0), ("a ~", 3))

    def test_no_plain_sign(self):
        for text, start in (("", 0), ("abc", 3), ("{n}", 0), ("n}", 1), ("[", 0), ("]", 0), ("%", 0), ("\x1f", 0),
                            ("\x7f", 0), ("\n", 0), ("\xe9", 0)):
            with self.subTest(text=text, start=start), self.assertRaises(Unread):
                plain_at(text, start)


class TestNumberAt(unittest.TestCase):
    def test_nought_itself(self):
        self.assertEqual(number_at("0", 0, BOUND), (0, 1))
        self.assertEqual(number_at("=0[no tile]", 1, BOUND), (0, 2))
        self.assertEqual(number_at("0..9", 0, BOUND), (0, 1))

    def test_numbers(self):
        for number in (1, 9, 10, 11, 99, 100, 101, 300, 1000, 10 ** 58, 10 ** 59 - 1):
            with self.subTest(number):
                text = str(number)
                self.assertEqual(number_at(text, 0, BOUND), (number, len(text)))
                self.assertEqual(number_at("=" + text + "[", 1, BOUND), (number, len(text) + 1))

    def test_it_ends_where_the_figures_end(self):
        for sign in "/:a.] -\u0663\xb2":
            with self.subTest(sign):
                self.assertEqual(number_at("109" + sign + "7", 0, BOUND), (109, 3))

    def test_a_nought_ahead(self):
        for text in ("00", "01", "07", "010", "000", "0" + "1" * 58):
            with self.subTest(text), self.assertRaises(Unread):
                number_at(text, 0, BOUND)

    def test_no_figure(self):
        for text, start in (("", 0), ("7", 1), ("a7", 0), (" 7", 0), ("-7", 0), ("+7", 0), ("/", 0), (":", 0),
                            ("\u0663", 0), ("\xb2", 0), ("\uff11", 0)):
            with self.subTest(text=text, start=start), self.assertRaises(Unread):
                number_at(text, start, BOUND)

    def test_the_bound(self):
        self.assertEqual(number_at("299", 0, 300), (299, 3))
        self.assertEqual(number_at("99", 0, 300), (99, 2))
        self.assertEqual(number_at("9" * 59, 0, BOUND), (BOUND - 1, 59))
        self.assertEqual(number_at("9" * 60, 0, 10 ** 60), (10 ** 60 - 1, 60))
        for text, bound in (("300", 300), ("301", 300), ("1000", 300), ("1" + "0" * 59, BOUND), ("9" * 60, BOUND)):
            with self.subTest(text=text, bound=bound), self.assertRaises(Unread):
                number_at(text, 0, bound)

    def test_very_long_rows_are_refused_as_others_are(self):
        for length in (61, 4000, 4300, 4301, 5000):
            with self.subTest(length), self.assertRaises(Unread):
                number_at("9" * length, 0, BOUND)


if __name__ == "__main__":
    unittest.main()
