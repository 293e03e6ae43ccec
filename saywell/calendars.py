"""Calendars, dates and the numbers of days, as point [15] of the document tells them."""

from saywell.errors import NoDay
from saywell.sets import below, below_in, counted, holds


def first_of(calendar, year):
    lengths, long, years = calendar
    return year * sum(lengths) + below(years, year)


def month_lengths(calendar, year):
    lengths, long, years = calendar
    if not holds(years, year):
        return list(lengths)
    return [length + 1 if k + 1 == long else length for k, length in enumerate(lengths)]


def date_of(calendar, day):
    year, first = year_of(calendar, day)
    left = day - first
    month = 1
    for length in month_lengths(calendar, year):
        if left < length:
            break
        left = left - length
        month = month + 1
    return (year, month, left + 1)


# The year of a day, and the number of the year's first day.
def year_of(calendar, day):
    lengths, long, years = calendar
    days = sum(lengths)
    table = counted(years)
    # Were all years long, or none, the year would be one of these two: it lies between them.
    low = day // (days + 1)
    high = day // days + 1
    while high - low > 1:
        mid = (low + high) // 2
        if mid * days + below_in(table, mid) <= day:
            low = mid
        else:
            high = mid
    return (low, low * days + below_in(table, low))


def number_of(calendar, date):
    year, month, day = date
    # A year has a day at least, so a greater year has no day below 10 ** 60.
    if not 0 <= year < 10 ** 60:
        raise NoDay(f"{date!r} is the date of no day")
    lengths = month_lengths(calendar, year)
    if not 1 <= month <= len(lengths) or not 1 <= day <= lengths[month - 1]:
        raise NoDay(f"{date!r} is the date of no day")
    number = first_of(calendar, year) + sum(lengths[:month - 1]) + day - 1
    if number >= 10 ** 60:
        raise NoDay(f"{date!r} is the date of no day")
    return number
