"""Numbers shown in figures, and read back, as point [14] of the document tells it."""

from saywell.errors import NoNumber

MOST_FIGURES = 60


def shown_number(figures, number):
    first, further, sign, minus, signs = figures
    row = "".join([signs[int(figure)] for figure in str(abs(number))])
    text = grouped(row, first, further, sign)
    if number < 0:
        return minus + text
    return text


def grouped(row, first, further, sign):
    left = row[:-first]
    text = row[-first:]
    while left != "":
        text = left[-further:] + sign + text
        left = left[:-further]
    return text


def read_number(figures, text):
    first, further, sign, minus, signs = figures
    is_below = text.startswith(minus)
    row = text[1:] if is_below else text
    if sign != "":
        row = row.replace(sign, "")
    if row == "" or len(row) > MOST_FIGURES or any([each not in signs for each in row]):
        raise NoNumber(f"{text!r} is no number's text")
    number = 0
    for each in row:
        number = number * 10 + signs.index(each)
    if is_below:
        number = - number
    # Noughts ahead, a minus with nought and signs between the wrong groups are all told by showing it again.
    if shown_number(figures, number) != text:
        raise NoNumber(f"{text!r} is no number's text")
    return number
