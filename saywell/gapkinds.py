"""Kinds of gaps: their values, the values' texts and the arms that they take, as points [12], [17], [19] tell them."""

from saywell.choices import taken
from saywell.dayforms import shown_day
from saywell.errors import NoThing
from saywell.figures import shown_number
from saywell.lists import laid
from saywell.roads import word_of
from saywell.rules import way_of
from saywell.words import is_whole_number

MOST_THINGS = 8


def is_value(house, kind, value):
    if kind in ("count", "day"):
        return is_whole_number(value) and 0 <= value < 10 ** 60
    if kind == "number":
        return is_whole_number(value) and abs(value) < 10 ** 60
    if kind == "thing":
        return value in house.things()
    if kind == "rank":
        return value in house.ranks()
    things = house.things()
    return isinstance(value, list) and len(value) <= MOST_THINGS and all([thing in things for thing in value])


def value_text(house, tongue, kind, value):
    named = house.tongue_named(tongue)
    if kind == "thing":
        return thing_word(house, tongue, value)[0]
    if kind == "list":
        return laid(named.joiners, [thing_word(house, tongue, thing)[0] for thing in value])
    if kind == "day":
        return shown_day(named.calendar, named.dayform, value)
    return shown_number(named.figures, value)


# The text and the kind of a thing in a piece of this tongue.
def thing_word(house, tongue, thing):
    found = word_of(house, tongue, thing)
    if found is None:
        raise NoThing(f"{thing!r} has no text on the road of {tongue!r}")
    name, text, kind = found
    return (text, kind)


# The name of the arm that a value takes in a choice of a piece of this tongue; None where none is taken.
def arm_for(house, tongue, how, names, value):
    if how == "kind":
        return taken(names, None, thing_word(house, tongue, value)[1])
    if how == "rank":
        return taken(names, None, value)
    number = len(value) if isinstance(value, list) else value
    return taken(names, number, way_of(house.tongue_named(tongue).rules, number))
