"""Calendars, dates and days' numbers, of saywell.calendars: point [15]."""

import copy
import random
import unittest

from saywell import errors
from saywell.calendars import date_of, first_of, number_of
from saywell.errors import NoDay
from helper import found_below, is_member

GREAT = 10 ** 60
LEAP = ("or", [("and", [("rest", 4, 0, 0), ("not", ("rest", 100, 0, 0))]), ("and", [
    ("rest", 100, 0, 0), ("rest", 300, 0, 0)])])
COMMON = ([31, 28, 31, 30, 31, 30, 31, 31, 30, 31, 30, 31], 2, LEAP)
SHORT = ([1], 1, ("rest", 2, 1, 1))
NEVER = ([1], 1, ("or", []))
ALWAYS = ([1], 1, ("and", []))
TWENTY = ([5, 1, 99] + [30] * 16 + [7], 20, ("or", [("rest", 5, 2, 3), ("self", 7, 11)]))
FIRST = ([3, 4, 5], 1, ("not", ("rest", 3, 0, 1)))
LAST = ([3, 4, 99], 3, ("self", 10 ** 58, None))
FAR = ([2, 1], 2, ("and", [("self", 10 ** 57, 10 ** 59 - 1), ("rest", 6, 1, 4)]))
ALL = [COMMON, SHORT, NEVER, ALWAYS, TWENTY, FIRST, LAST, FAR]


def lengths_in(calendar, year):
    lengths, long, years = calendar
    return [length + (1 if month == long and is_member(years, year) else 0)
            for month, length in enumerate(lengths, start=1)]


def plain_dates(calendar, how_many):
    """The dates of the days from 0 on, one day after the other."""
    dates = []
    year = 0
    while len(dates) < how_many:
        for month, length in enumerate(lengths_in(calendar, year), start=1):
            dates.extend([(year, month, day) for day in range(1, length + 1)])
        year = year + 1
    return dates[:how_many]


class CalendarTest(unittest.TestCase):
    def assert_refused(self, calendar, date):
        with self.subTest(calendar=calendar, date=date):
            with self.assertRaises(errors.SayError) as caught:
                number_of(calendar, date)
            self.assertEqual(type(caught.exception), NoDay)


class TestDays(CalendarTest):
    def test_day_by_day(self):
        for calendar in ALL:
            kept = copy.deepcopy(calendar)
            for number, date in enumerate(plain_dates(calendar, 2500)):
                self.assertEqual(date_of(calendar, number), date)
                self.assertEqual(number_of(calendar, date), number)
                if date[1:] == (1, 1):
                    self.assertEqual(first_of(calendar, date[0]), number)
            self.assertEqual(calendar, kept)

    def test_day_nought(self):
        for calendar in ALL:
            self.assertEqual(date_of(calendar, 0), (0, 1, 1))
            self.assertEqual(number_of(calendar, (0, 1, 1)), 0)
            self.assertEqual(first_of(calendar, 0), 0)

    def test_first_of_years(self):
        rng = random.Random(41)
        for calendar in ALL:
            days = sum(calendar[0])
            for year in [0, 1, 2, 299, 300, 301, 10 ** 57 + 1, 10 ** 58, 10 ** 58 + 1, 10 ** 59, GREAT - 1, GREAT,
                         rng.randrange(GREAT)]:
                self.assertEqual(first_of(calendar, year), year * days + found_below(calendar[2], year))

    def test_days_of_sixty_figures(self):
        rng = random.Random(42)
        for calendar in ALL:
            for day in [GREAT - 1, GREAT - 2, 10 ** 59, 10 ** 59 - 1, 10 ** 58] + [rng.randrange(GREAT) for k in range(8)]:
                date = date_of(calendar, day)
                year, month, number = date
                first = year * sum(calendar[0]) + found_below(calendar[2], year)
                lengths = lengths_in(calendar, year)
                self.assertTrue(1 <= month <= len(lengths) and 1 <= number <= lengths[month - 1])
                self.assertEqual(first + sum(lengths[:month - 1]) + number - 1, day)
                self.assertEqual(number_of(calendar, date), day)

    def test_around_the_ends_of_months_and_years(self):
        for calendar in ALL:
            for year in (0, 1, 2, 3, 4, 7, 299, 300, 10 ** 57, 10 ** 57 + 5):
                day = first_of(calendar, year)
                for month, length in enumerate(lengths_in(calendar, year), start=1):
                    self.assertEqual(date_of(calendar, day), (year, month, 1))
                    self.assertEqual(date_of(calendar, day + length - 1), (year, month, length))
                    self.assertEqual(number_of(calendar, (year, month, length)), day + length - 1)
                    day = day + length
                self.assertEqual(date_of(calendar, day), (year + 1, 1, 1))
                self.assertEqual(first_of(calendar, year + 1), day)

    def test_long_years(self):
        self.assertEqual(date_of(COMMON, number_of(COMMON, (4, 2, 28)) + 1), (4, 2, 29))
        self.assertEqual(date_of(COMMON, number_of(COMMON, (5, 2, 28)) + 1), (5, 3, 1))
        self.assertEqual(number_of(COMMON, (0, 2, 29)), 59)
        self.assert_refused(COMMON, (100, 2, 29))
        self.assertEqual(number_of(FIRST, (2, 1, 4)), 27)
        self.assert_refused(FIRST, (1, 1, 4))


class TestNoDates(CalendarTest):
    def test_months_and_days(self):
        for calendar in ALL:
            for year in (0, 1, 2, 3, 4, 8, 100, 300, 10 ** 57):
                lengths = lengths_in(calendar, year)
                for date in ((year, 0, 1), (year, len(lengths) + 1, 1), (year, -1, 1), (year, 1, -1), (-1, 1, 1),
                             (-year - 1, 1, 1), (year, 10 ** 60, 1), (year, 1, 10 ** 60)):
                    self.assert_refused(calendar, date)
                for month, length in enumerate(lengths, start=1):
                    self.assert_refused(calendar, (year, month, 0))
                    self.assert_refused(calendar, (year, month, length + 1))
                    self.assertEqual(date_of(calendar, number_of(calendar, (year, month, length))), (year, month, length))

    def test_beyond_the_last_day(self):
        for calendar in ALL:
            year, month, day = date_of(calendar, GREAT - 1)
            self.assertEqual(number_of(calendar, (year, month, day)), GREAT - 1)
            lengths = lengths_in(calendar, year)
            for later in (day + 1, lengths[month - 1] + 1):
                self.assert_refused(calendar, (year, month, later))
            if month < len(lengths):
                self.assert_refused(calendar, (year, month + 1, 1))
            for beyond in (year + 1, year + 2, GREAT, GREAT + 1, 10 ** 61, 10 ** 100):
                self.assert_refused(calendar, (beyond, 1, 1))

    def test_lengths_stay(self):
        calendar = ([3, 4], 1, ("and", [("rest", 2, 0, 0)]))
        date_of(calendar, 100)
        number_of(calendar, (4, 1, 4))
        first_of(calendar, 9)
        self.assertEqual(calendar, ([3, 4], 1, ("and", [("rest", 2, 0, 0)])))


if __name__ == "__main__":
    unittest.main()
