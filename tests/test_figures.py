"""Numbers shown and read back, of saywell.figures: point [14]."""

import random
import unittest

from saywell import errors
from saywell.errors import NoNumber
from saywell.figures import read_number, shown_number

TEN = "0123456789"
ENGLISH = (3, 3, ",", "-", TEN)
INDIAN = (3, 2, ",", "-", TEN)
PLAIN = (3, 3, "", "-", TEN)
STRANGE = (1, 4, "'", "~", "!\"#$&()*+.")
TURNED = (2, 1, " ", "+", "9876543210")
ALL = [ENGLISH, INDIAN, PLAIN, STRANGE, TURNED, (9, 9, ".", "_", TEN), (1, 1, "-", " ", TEN), (4, 9, "/", "=", TEN)]
GREAT = 10 ** 60


def plainly_shown(figures, number):
    """Figure by figure from the right."""
    first, further, sign, minus, signs = figures
    text = ""
    for k, figure in enumerate(reversed(str(abs(number)))):
        if k >= first and (k - first) % further == 0:
            text = sign + text
        text = signs[int(figure)] + text
    return minus + text if number < 0 else text


class FigureTest(unittest.TestCase):
    def assert_refused(self, figures, text):
        with self.subTest(figures=figures, text=text):
            with self.assertRaises(errors.SayError) as caught:
                read_number(figures, text)
            self.assertEqual(type(caught.exception), NoNumber)


class TestThereAndBack(FigureTest):
    def test_ordinary_ones(self):
        self.assertEqual(shown_number(ENGLISH, 0), "0")
        self.assertEqual(shown_number(ENGLISH, 7), "7")
        self.assertEqual(shown_number(ENGLISH, 999), "999")
        self.assertEqual(shown_number(ENGLISH, 1000), "1,000")
        self.assertEqual(shown_number(ENGLISH, -1234567), "-1,234,567")
        self.assertEqual(shown_number(ENGLISH, 123456), "123,456")
        self.assertEqual(shown_number(INDIAN, 123456789), "12,34,56,789")
        self.assertEqual(shown_number(INDIAN, 1000), "1,000")
        self.assertEqual(shown_number(INDIAN, 100000), "1,00,000")
        self.assertEqual(shown_number(PLAIN, -1234567), "-1234567")
        self.assertEqual(shown_number(TURNED, 1205), "8 7 94")
        self.assertEqual(shown_number(STRANGE, -123456), "~\"'#$&('" + ")")

    def test_numbers_beside_each_power(self):
        for figures in ALL:
            for power in list(range(0, 14)) + [58, 59, 60]:
                for step in (-1, 0, 1):
                    for number in (10 ** power + step, - 10 ** power + step):
                        if -GREAT < number < GREAT:
                            text = shown_number(figures, number)
                            self.assertEqual(text, plainly_shown(figures, number))
                            self.assertEqual(read_number(figures, text), number)

    def test_groups_of_each_size(self):
        rng = random.Random(31)
        for first in range(1, 10):
            for further in range(1, 10):
                for sign in (".", ""):
                    figures = (first, further, sign, "-", TEN)
                    for length in list(range(1, 22)) + [59, 60]:
                        number = rng.randrange(10 ** (length - 1), 10 ** length) * rng.choice([1, -1])
                        text = plainly_shown(figures, number)
                        self.assertEqual(shown_number(figures, number), text)
                        self.assertEqual(read_number(figures, text), number)

    def test_nought(self):
        for figures in ALL:
            self.assertEqual(shown_number(figures, 0), figures[4][0])
            self.assertEqual(read_number(figures, figures[4][0]), 0)


class TestRefused(FigureTest):
    def test_the_text_without_signs_and_a_minus_alone(self):
        for figures in ALL:
            self.assert_refused(figures, "")
            self.assert_refused(figures, figures[3])
            self.assert_refused(figures, figures[3] * 2)
            self.assert_refused(figures, figures[3] * 2 + figures[4][1])
            self.assert_refused(figures, figures[4][1] + figures[3])

    def test_sixty_one_figures(self):
        for figures in ALL:
            text = plainly_shown(figures, GREAT - 1)
            self.assertEqual(read_number(figures, text), GREAT - 1)
            self.assertEqual(read_number(figures, figures[3] + text), 1 - GREAT)
            for number in (GREAT, -GREAT, GREAT * 10, 10 ** 61 - 1, 10 ** 3900):
                self.assert_refused(figures, plainly_shown(figures, number))

    def test_a_nought_ahead(self):
        for text in ("00", "01", "007", "0,001", "01,000", "000,001", "-01", "-00", "0" * 60, "0" * 61, "0,123"):
            self.assert_refused(ENGLISH, text)
        for text in ("00", "01", "0123", "-0123"):
            self.assert_refused(PLAIN, text)

    def test_a_minus_with_nought(self):
        for figures in ALL:
            self.assert_refused(figures, figures[3] + figures[4][0])

    def test_group_signs_missing_or_at_a_wrong_place(self):
        for text in ("1000", "1,0000", "10,00", "1,00", "1000,000", "1,000000", ",100", "100,", "1,,000", "1,000,",
                     ",1,000", "-,100", ",", "-,", "12,34,567", "1,2", "1,23", "-1000"):
            self.assert_refused(ENGLISH, text)
        for text in ("123,456", "1,234,567", "1234", "1,23,45", "12345", "123,45,678"):
            self.assert_refused(INDIAN, text)
        for text in ("1,000", "1,234,567", "1,2"):
            self.assert_refused(PLAIN, text)

    def test_other_signs(self):
        for text in ("a", "1a", "a1", " 1", "1 ", "+1", "1.0", "1.000", "--1", "1-", "1-1", "1e3", "x1,000", "{1}"):
            self.assert_refused(ENGLISH, text)
        self.assert_refused(STRANGE, "0")
        self.assert_refused(STRANGE, "1")

    def test_a_sign_put_in_taken_out_or_exchanged(self):
        for figures in (ENGLISH, INDIAN, PLAIN, TURNED):
            for number in (0, 5, 12, -345, 1234, 1234567, -100000):
                text = shown_number(figures, number)
                for place in range(len(text) + 1):
                    for sign in list(figures[4]) + [figures[2], figures[3], "x", ""]:
                        for width in (0, 1):
                            self.check(figures, text[:place] + sign + text[place + width:])

    def check(self, figures, text):
        first, further, sign, minus, signs = figures
        below = text.startswith(minus)
        row = [each for each in (text[1:] if below else text) if sign == "" or each != sign]
        if row and all([each in signs for each in row]):
            number = int("".join([str(signs.index(each)) for each in row])) * (-1 if below else 1)
            if plainly_shown(figures, number) == text:
                self.assertEqual(read_number(figures, text), number)
                return
        self.assert_refused(figures, text)


if __name__ == "__main__":
    unittest.main()
