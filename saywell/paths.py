"""The ways through a piece, and the least values that take them, as points [21] and [22] of the document tell them.

A test is a tuple (tongue, how, names, name): a choice of a piece of this tongue, its sort, the names of its arms, and
the one that is to be taken, or None where none is to be.
"""

from saywell.choices import set_for
from saywell.errors import NoMessage, NoThing
from saywell.gapkinds import MOST_THINGS, arm_for
from saywell.patterns import is_choice, names_of
from saywell.sets import least


def fits(house, test, value):
    tongue, how, names, name = test
    try:
        return arm_for(house, tongue, how, names, value) == name
    # A thing without a text has no kind, so it takes no arm, and isn't one that takes none either.
    except NoThing:
        return False


# The least value of a gap of this kind that fits all tests, or None.
def least_value(house, kind, tests):
    if kind == "count":
        return least(("and", [number_set(house, test) for test in tests]))
    for value in in_order(house, kind):
        if all([fits(house, test, value) for test in tests]):
            return value
    return None


def number_set(house, test):
    tongue, how, names, name = test
    return set_for(names, name, house.tongue_named(tongue).rules)


# The values of a kind but count, least first, as far as it matters to tests.
def in_order(house, kind):
    if kind == "thing":
        return house.things()
    if kind == "rank":
        return house.ranks()
    if kind == "list":
        return [house.things()[:1] * length for length in range(MOST_THINGS + 1)]
    return [0]


def arms(house, tongue, key):
    house.ask_tongue(tongue)
    pattern = house.piece(tongue, key)
    if pattern is None:
        raise NoMessage(f"{tongue!r} has no piece for {key!r}")
    rows = []
    for place, part, asked in choices_of(tongue, pattern, (), []):
        names = names_of(part[2])
        for name in names:
            told = told_of(house, key, asked + [asked_by(tongue, part, name)])
            rows.append((place, name, told))
        word, values = told_of(house, key, asked + [asked_by(tongue, part, None)])
        if word == "taken":
            rows.append((place, None, ("lacking", values)))
    return rows


# The gap that a choice asks, and the test that it makes of it.
def asked_by(tongue, part, name):
    return (part[1], (tongue, part[0], names_of(part[2]), name))


# Each choice, outer ones first: its place, itself, and what is asked on the way to it.
def choices_of(tongue, pattern, ahead, asked):
    found = []
    for k, part in enumerate(pattern):
        if is_choice(part):
            place = ahead + (k,)
            found.append((place, part, asked))
            for number, (name, within) in enumerate(part[2]):
                further = asked + [asked_by(tongue, part, name)]
                found.extend(choices_of(tongue, within, place + (number,), further))
    return found


def told_of(house, key, asked):
    values = {}
    for gap, kind in house.gaps(key):
        value = least_value(house, kind, [test for each, test in asked if each == gap])
        if value is None:
            return ("needless", gap)
        values[gap] = value
    return ("taken", values)
