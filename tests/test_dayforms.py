"""Days shown and read back, of saywell.dayforms: point [16]."""

import copy
import random
import unittest

from saywell import errors
from saywell.calendars import date_of
from saywell.dayforms import read_day, shown_day
from saywell.errors import NoDay
from helper import COMMON

GREAT = 10 ** 60
ORDERS = ["dmy", "dym", "mdy", "myd", "ydm", "ymd"]
MONTHS = ["Jan", "Feb", "Mar", "Apr", "May", "Jun", "Jul", "Aug", "Sep", "Oct", "Nov", "Dec"]
LITTLE = ([3, 1, 99, 12], 3, ("rest", 2, 1, 1))
BEGUN = ["a", "ab", "abc", "b"]


def plainly_shown(calendar, dayform, day):
    order, joint, names = dayform
    year, month, number = date_of(calendar, day)
    fields = {"d": number, "m": names[month - 1] if names else month, "y": year}
    return f"{fields[order[0]]}{joint}{fields[order[1]]}{joint}{fields[order[2]]}"


class DayTest(unittest.TestCase):
    def assert_refused(self, calendar, dayform, text):
        with self.subTest(dayform=dayform, text=text):
            with self.assertRaises(errors.SayError) as caught:
                read_day(calendar, dayform, text)
            self.assertEqual(type(caught.exception), NoDay)


class TestThereAndBack(DayTest):
    def test_ordinary_ones(self):
        self.assertEqual(shown_day(COMMON, ("dmy", ".", None), 0), "1.1.0")
        self.assertEqual(shown_day(COMMON, ("dmy", ". ", MONTHS), 59), "29. Feb. 0")
        self.assertEqual(shown_day(COMMON, ("ymd", "-", None), 366), "1-1-1")
        self.assertEqual(shown_day(COMMON, ("mdy", "/", None), 365), "12/31/0")
        self.assertEqual(read_day(COMMON, ("mdy", " ", MONTHS), "Dec 31 0"), 365)

    def test_all_orders_with_and_without_names(self):
        rng = random.Random(51)
        for calendar, names in ((COMMON, MONTHS), (LITTLE, BEGUN)):
            for order in ORDERS:
                for joint in (".", "-", ", ", " - ", "--", "....", " ", "&/&", "~"):
                    for used in (None, names):
                        dayform = (order, joint, used)
                        kept = copy.deepcopy((calendar, dayform))
                        for day in [0, 1, 30, 31, 58, 59, 60, 365, 366, 10 ** 59, GREAT - 1, rng.randrange(GREAT)]:
                            text = shown_day(calendar, dayform, day)
                            self.assertEqual(text, plainly_shown(calendar, dayform, day))
                            self.assertEqual(read_day(calendar, dayform, text), day)
                        self.assertEqual((calendar, dayform), kept)

    def test_every_day_of_some_years(self):
        for day in range(0, 366 * 5):
            for dayform in (("dmy", ".", None), ("myd", " ", MONTHS)):
                self.assertEqual(read_day(COMMON, dayform, shown_day(COMMON, dayform, day)), day)

    def test_names_that_begin_one_another(self):
        for order in ORDERS:
            for day in range(0, 300):
                dayform = (order, "/", BEGUN)
                self.assertEqual(read_day(LITTLE, dayform, shown_day(LITTLE, dayform, day)), day)

    def test_one_month_and_one_day(self):
        calendar = ([1], 1, ("or", []))
        self.assertEqual(shown_day(calendar, ("ydm", "-", None), GREAT - 1), "9" * 60 + "-1-1")
        self.assertEqual(read_day(calendar, ("ydm", "-", ["x"]), "9" * 60 + "-1-x"), GREAT - 1)
        self.assert_refused(calendar, ("ydm", "-", None), "1" + "0" * 60 + "-1-1")


class TestRefused(DayTest):
    def test_forms(self):
        for text in ("", ".", "..", "1.1", "1.1.", ".1.1", "1..1", "1.1.1.1", "1.1.1.", ".1.1.1", "1-1-1", "1.1-1",
                     "01.1.1", "1.01.1", "1.1.01", "1.1.00", "00.1.1", "1.1.1 ", " 1.1.1", "1. 1.1", "1.Jan.1", "Jan",
                     "-1.1.1", "1.1.-1", "+1.1.1", "1,1,1", "a.b.c", "1.1.1a", "1.1.x", "0x1.1.1", "1.1.1e2"):
            self.assert_refused(COMMON, ("dmy", ".", None), text)

    def test_no_such_day(self):
        for text in ("0.1.1", "32.1.1", "1.0.1", "1.13.1", "29.2.1", "30.2.4", "31.4.1", "29.2.100", "100.1.1"):
            self.assert_refused(COMMON, ("dmy", ".", None), text)
        for text in ("0 Jan 1", "32 Jan 1", "29 Feb 1", "31 Apr 1"):
            self.assert_refused(COMMON, ("dmy", " ", MONTHS), text)
        self.assertEqual(date_of(COMMON, read_day(COMMON, ("dmy", ".", None), "29.2.4")), (4, 2, 29))

    def test_months_by_name_alone_where_there_are_names(self):
        for text in ("1 1 1", "1 01 1", "1 jan 1", "1 JAN 1", "1 Ja 1", "1 Janu 1", "1  1", "1 Jan Feb 1", "Jan 1 1",
                     "1 1 Jan"):
            self.assert_refused(COMMON, ("dmy", " ", MONTHS), text)

    def test_other_figures(self):
        for text in ("\u0661.1.1", "\xb2.1.1", "1.1.\uff11"):
            self.assert_refused(COMMON, ("dmy", ".", None), text)

    def test_beyond_the_last_day(self):
        year, month, day = date_of(COMMON, GREAT - 1)
        dayform = ("ymd", "-", None)
        self.assertEqual(read_day(COMMON, dayform, f"{year}-{month}-{day}"), GREAT - 1)
        self.assert_refused(COMMON, dayform, f"{year + 1}-1-1")
        self.assert_refused(COMMON, dayform, "9" * 60 + "-1-1")
        self.assert_refused(COMMON, dayform, "9" * 61 + "-1-1")
        self.assert_refused(COMMON, dayform, "9" * 3990 + "-1-1")
        self.assert_refused(COMMON, dayform, "1-1-" + "9" * 3990)

    def test_a_sign_put_in_taken_out_or_exchanged(self):
        for dayform in (("dmy", ".", None), ("ymd", "--", None), ("mdy", ", ", MONTHS), ("dym", " ", MONTHS)):
            days = {plainly_shown(COMMON, dayform, day): day for day in range(0, 4800)}
            for day in (0, 59, 400, 1500):
                text = plainly_shown(COMMON, dayform, day)
                for place in range(len(text) + 1):
                    for sign in ["", ".", "-", " ", ",", "0", "1", "a", "J"]:
                        for width in (0, 1):
                            self.check(dayform, text[:place] + sign + text[place + width:], days)

    def check(self, dayform, text, days):
        if text in days:
            self.assertEqual(read_day(COMMON, dayform, text), days[text])
            return
        try:
            day = read_day(COMMON, dayform, text)
        except errors.SayError as error:
            self.assertEqual(type(error), NoDay)
            return
        self.assertEqual(plainly_shown(COMMON, dayform, day), text)


if __name__ == "__main__":
    unittest.main()
