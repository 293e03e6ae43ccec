"""Pressing a book into a house, as point [29] of the document tells it."""

from saywell.errors import NoMessage, NoPattern, NoValue
from saywell.paths import arms
from saywell.patterns import read
from saywell.tokens import tokens


def press(house, book, first):
    house.ask_tongue(first)
    for tongue in house.tongues():
        if tongue != first:
            drop_all(house, tongue)
    left_out = []
    for tongue, key, writings in book.told():
        word = why_left_out(house, first, (tongue, key), writings)
        if word is not None:
            left_out.append((tongue, key, word))
    return left_out


def drop_all(house, tongue):
    for key in house.messages():
        house.drop(tongue, key)


# Puts a piece of the book into the house and answers None, or answers the word for which it is left out.
def why_left_out(house, first, piece, writings):
    tongue, key = piece
    now = house.piece(first, key)
    if tongue not in house.tongues() or tongue == first or now is None:
        return "unknown"
    if len(writings) > 1:
        return "clash"
    text, make = writings[0]
    try:
        pattern = read(text)
        made_from = read(make)
    except NoPattern:
        return "text"
    if tokens(made_from) != tokens(now):
        return "stale"
    try:
        house.put(tongue, key, pattern)
    except (NoMessage, NoValue):
        return "gaps"
    if any([name is None for place, name, told in arms(house, tongue, key)]):
        house.drop(tongue, key)
        return "lacking"
    return None
