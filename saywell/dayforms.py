"""Days shown as texts, and read back, as point [16] of the document tells it."""

from saywell.calendars import date_of, number_of
from saywell.errors import NoDay
from saywell.words import is_figure

# No day below 10 ** 60 has a number of more figures in its date.
MOST_FIGURES = 60


def shown_day(calendar, dayform, day):
    order, joint, names = dayform
    year, month, number = date_of(calendar, day)
    fields = {"d": str(number), "m": str(month), "y": str(year)}
    if names is not None:
        fields["m"] = names[month - 1]
    return joint.join([fields[letter] for letter in order])


def read_day(calendar, dayform, text):
    order, joint, names = dayform
    rows = text.split(joint)
    if len(rows) != 3:
        raise NoDay(f"{text!r} is no day's text")
    numbers = {}
    for letter, row in zip(order, rows):
        if letter == "m" and names is not None:
            numbers[letter] = month_named(names, row)
        else:
            numbers[letter] = number_in(row)
    return number_of(calendar, (numbers["y"], numbers["m"], numbers["d"]))


def month_named(names, row):
    if row not in names:
        raise NoDay(f"{row!r} is no month's name")
    return names.index(row) + 1


def number_in(row):
    if row == "" or len(row) > MOST_FIGURES or not all([is_figure(sign) for sign in row]):
        raise NoDay(f"{row!r} is no number")
    if row[0] == "0" and row != "0":
        raise NoDay(f"{row!r} has a nought ahead")
    return int(row)
