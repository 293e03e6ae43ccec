"""Readings: all values that say a text, as points [25] and [26] of the document tell them.

A partial reading is a tuple (end, shown, asked): how much of the text is made, a dict of the values shown, and a dict
of the tests (as in saywell.paths) that each gap was put to, in their order, as tuples.
"""

from saywell.dayforms import read_day
from saywell.errors import Flawed, NoDay, NoMessage, NoNumber, TooMany
from saywell.figures import read_number
from saywell.gapkinds import MOST_THINGS, is_value, value_text
from saywell.lists import begun
from saywell.looks import flaws
from saywell.paths import fits, least_value
from saywell.patterns import is_choice, names_of
from saywell.roads import owner, word_of
from saywell.scan import row_at, stands
from saywell.words import is_figure, is_letter

MOST_PARTIAL = 300

# No number's text and no day's text is longer.
MOST_SIGNS = 200


def readings(house, tongue, key, text):
    name = owner(house, tongue, key)
    if name is None:
        raise NoMessage(f"{key!r} has no piece on the road of {tongue!r}")
    if flaws(house, tongue, key) != []:
        raise Flawed(f"{key!r} has flaws in {tongue!r}")
    gaps = house.gaps(key)
    reader = Reader(house, gaps, text)
    own_gaps = dict([(gap, gap) for gap, kind in gaps])
    partials = reader.go_message(name, key, own_gaps, [(0, {}, {})])
    return [reader.reading_of(partial) for partial in partials if partial[0] == len(text)]


# What the search for the readings of one text keeps: what is asked again and again is worked out once.
class Reader:
    def __init__(self, house, gaps, text):
        self.house = house
        self.gap_list = gaps
        self.kind_by_gap = dict(gaps)
        self.text = text
        self.least_by_tests = {}
        self.found_by_place = {}
        self.things_by_tongue = {}

    # bound tells for each gap of this message the one of the message asked to which it is bound in the end.
    def go_message(self, name, key, bound, partials):
        return self.go_pattern(name, self.house.piece(name, key), bound, partials)

    def go_pattern(self, name, pattern, bound, partials):
        for k, part in enumerate(pattern):
            partials = self.go_part(name, part, text_next(pattern, k), bound, partials)
            if len(partials) > MOST_PARTIAL:
                raise TooMany("too many partial readings")
        return partials

    def go_part(self, name, part, text_behind, bound, partials):
        if part[0] == "text":
            return self.go_text(part[1], partials)
        if part[0] == "gap":
            return self.go_gap(name, bound[part[1]], text_behind, partials)
        if is_choice(part):
            return self.go_choice(name, part, bound, partials)
        how, key, binds = part
        theirs_bound = dict([(theirs, bound[mine]) for theirs, mine in binds])
        return self.go_message(owner(self.house, name, key), key, theirs_bound, partials)

    def go_text(self, row, partials):
        return [(end + len(row), shown, asked) for end, shown, asked in partials if stands(self.text, end, row)]

    # The text part behind is looked at here already: what doesn't fit it isn't counted behind the gap.
    def go_gap(self, name, gap, text_behind, partials):
        further = []
        for partial in partials:
            for value, end in self.values_from(name, gap, text_behind, partial):
                shown = dict(partial[1])
                shown[gap] = value
                further.append((end, shown, partial[2]))
            if len(further) > MOST_PARTIAL:
                raise TooMany("too many partial readings")
        return further

    # The values that this gap may show here, each with the place behind its text.
    def values_from(self, name, gap, text_behind, partial):
        end, shown, asked = partial
        kind = self.kind_by_gap[gap]
        if gap in shown:
            row = value_text(self.house, name, kind, shown[gap])
            return [(shown[gap], end + len(row))] if stands(self.text, end, row + text_behind) else []
        tests = asked.get(gap, ())
        values = []
        for value, behind in self.found_at(name, kind, end):
            if stands(self.text, behind, text_behind) and all([fits(self.house, test, value) for test in tests]):
                values.extend([(each, behind) for each in self.meant(name, kind, value)])
        return values

    def go_choice(self, name, part, bound, partials):
        how, gap, ways = part
        further = []
        for arm, within in ways:
            test = (name, how, tuple(names_of(ways)), arm)
            put_to = [with_test(partial, bound[gap], test) for partial in partials]
            taking = [partial for partial in put_to if self.is_taken(bound[gap], partial)]
            further.extend(self.go_pattern(name, within, bound, taking))
        return further

    def is_taken(self, gap, partial):
        end, shown, asked = partial
        if gap in shown:
            return fits(self.house, asked[gap][-1], shown[gap])
        return self.least_of(gap, asked[gap]) is not None

    def least_of(self, gap, tests):
        kind = self.kind_by_gap[gap]
        if (kind, tests) not in self.least_by_tests:
            self.least_by_tests[(kind, tests)] = least_value(self.house, kind, tests)
        return self.least_by_tests[(kind, tests)]

    # What of this kind is found at a place, each with the place behind it: values, but of a list the texts in it.
    def found_at(self, name, kind, start):
        if (name, kind, start) not in self.found_by_place:
            self.found_by_place[(name, kind, start)] = self.found_anew(name, kind, start)
        return self.found_by_place[(name, kind, start)]

    def found_anew(self, name, kind, start):
        named = self.house.tongue_named(name)
        if kind == "list":
            return self.lists_from(named.joiners, self.things_by_text(name), start)
        if kind == "thing":
            return self.things_from(self.things_by_text(name), start)
        if kind == "day":
            return days_from(named, self.text, start)
        found = numbers_from(named.figures, self.text, start)
        return [(number, end) for number, end in found if is_value(self.house, kind, number)]

    def things_from(self, known, start):
        found = []
        for row in known:
            if stands(self.text, start, row):
                found.extend([(thing, start + len(row)) for thing in known[row]])
        return found

    def lists_from(self, joiners, known, start):
        found = []
        if stands(self.text, start, joiners[0]):
            found.append(([], start + len(joiners[0])))
        for how_many in range(1, MOST_THINGS + 1):
            head = begun(joiners, self.text, start, how_many)
            if head is not None and all([row in known for row in head[0]]):
                rows, last = head
                found.extend([(rows + [row], last + len(row)) for row in known if stands(self.text, last, row)])
        return found

    # The things that have each text in a piece of this tongue.
    def things_by_text(self, name):
        if name not in self.things_by_tongue:
            known = {}
            for thing in self.house.things():
                found = word_of(self.house, name, thing)
                if found is not None:
                    known[found[1]] = known.get(found[1], []) + [thing]
            self.things_by_tongue[name] = known
        return self.things_by_tongue[name]

    # The values that are meant by what was found: of a list's texts all lists of things, as far as they may be counted.
    def meant(self, name, kind, found):
        if kind != "list":
            return [found]
        known = self.things_by_text(name)
        lists = [[]]
        for row in found:
            lists = lengthened(lists, known[row])[:MOST_PARTIAL + 1]
        return lists

    def reading_of(self, partial):
        end, shown, asked = partial
        rows = []
        for gap, kind in self.gap_list:
            if gap in shown:
                rows.append((gap, "shown", own(shown[gap])))
            else:
                tests = asked.get(gap, ())
                told = [(name, how, list(names), arm) for name, how, names, arm in tests]
                rows.append((gap, "hidden", told, own(self.least_of(gap, tests))))
        return rows


def text_next(pattern, k):
    if k + 1 < len(pattern) and pattern[k + 1][0] == "text":
        return pattern[k + 1][1]
    return ""


def with_test(partial, gap, test):
    end, shown, asked = partial
    further = dict(asked)
    further[gap] = asked.get(gap, ()) + (test,)
    return (end, shown, further)


def lengthened(lists, things):
    further = []
    for each in lists:
        further.extend([each + [thing] for thing in things])
    return further


# Two readings share no list.
def own(value):
    if isinstance(value, list):
        return list(value)
    return value


def numbers_from(figures, text, start):
    first, further, sign, minus, signs = figures
    ahead = text[:start + MOST_SIGNS]
    row, end = row_at(ahead, start, lambda each: each in signs or each in (sign, minus))
    found = []
    for length in range(1, len(row) + 1):
        try:
            found.append((read_number(figures, row[:length]), start + length))
        except NoNumber:
            pass
    return found


def days_from(named, text, start):
    order, joint, names = named.dayform
    ahead = text[:start + MOST_SIGNS]
    row, end = row_at(ahead, start, lambda each: is_letter(each) or is_figure(each) or each in joint)
    found = []
    for length in range(1, len(row) + 1):
        try:
            found.append((read_day(named.calendar, named.dayform, row[:length]), start + length))
        except NoDay:
            pass
    return found
