"""Small steps along a text, of which the readers are made.

Each step is handed a text and the place in it where one stands, from 0 to the text's end. What is found there is
answered together with the place behind it; nothing is kept between two steps.
"""

from saywell.errors import SayError
from saywell.words import is_figure, is_plain, is_small, is_word


# A step doesn't know whose text it goes along: its reader takes this error and raises the refusal of its own point.
class Unread(SayError):
    pass


def stands(text, start, mark):
    return text[start:start + len(mark)] == mark


def behind(text, start, mark):
    if not stands(text, start, mark):
        raise Unread(f"no {mark!r} at {start}")
    return start + len(mark)


def row_at(text, start, is_one):
    end = start
    while end < len(text) and is_one(text[end]):
        end = end + 1
    return (text[start:end], end)


def word_at(text, start):
    row, end = row_at(text, start, is_small)
    if not is_word(row):
        raise Unread(f"no word at {start}")
    return (row, end)


def plain_at(text, start):
    row, end = row_at(text, start, is_plain)
    if row == "":
        raise Unread(f"no plain sign at {start}")
    return (row, end)


def number_at(text, start, bound):
    row, end = row_at(text, start, is_figure)
    if row == "" or (row[0] == "0" and row != "0"):
        raise Unread(f"no number at {start}")
    # Python's int refuses rows of some thousand figures by an error of its own, so their length is asked first.
    if len(row) > len(str(bound)) or int(row) >= bound:
        raise Unread(f"too great a number at {start}")
    return (int(row), end)
