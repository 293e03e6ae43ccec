"""Whole numbers, signs and words, as point [2] of the document tells them.

is_small, is_letter, is_figure and is_plain are asked of one sign; is_whole_number and is_word of whatever is handed in.
"""

MOST_LETTERS = 8

# A text of the program may not hold the percent sign itself, so it is known by its number.
PERCENT = 37


def is_whole_number(thing):
    # To Python True and False are ints; to the document they are none.
    return isinstance(thing, int) and not isinstance(thing, bool)


def is_small(sign):
    return "a" <= sign <= "z"


def is_letter(sign):
    return is_small(sign) or "A" <= sign <= "Z"


def is_figure(sign):
    return "0" <= sign <= "9"


def is_plain(sign):
    return " " <= sign <= "~" and sign not in "{}[]" and ord(sign) != PERCENT


def is_word(thing):
    if not isinstance(thing, str):
        return False
    if thing == "" or len(thing) > MOST_LETTERS or thing == "else":
        return False
    return all([is_small(sign) for sign in thing])
