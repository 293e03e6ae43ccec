"""Patterns: their text, and what is asked of them, as points [5] to [7] of the document tell them."""

from saywell.errors import NoPattern, NoPlace
from saywell.scan import Unread, behind, number_at, plain_at, row_at, stands, word_at
from saywell.words import is_small, is_word

MOST_PARTS = 40
MOST_DEEP = 4
MOST_ARMS = 8
MOST_BINDS = 4
MOST_SIGNS = 1000

CHOICES = ("many", "kind", "rank")
MARKS = {"many": "#", "kind": "~", "rank": "^"}


def is_choice(part):
    return part[0] in CHOICES


def names_of(arms):
    return [name for name, pattern in arms]


def read(text):
    if not isinstance(text, str) or len(text) > MOST_SIGNS:
        raise NoPattern("no text of a pattern's length")
    try:
        pattern, end = pattern_at(text, 0, 1)
    except Unread:
        raise NoPattern(f"{text!r} is no pattern's text") from None
    if end < len(text) or size(pattern) > MOST_PARTS:
        raise NoPattern(f"{text!r} is no pattern's text")
    return pattern


# deep is how deep a choice of this very pattern stands.
def pattern_at(text, start, deep):
    pattern = []
    end = start
    while end < len(text) and not stands(text, end, "]"):
        part, end = part_from(text, end, deep)
        pattern.append(part)
    return (pattern, end)


def part_from(text, start, deep):
    if not stands(text, start, "{"):
        row, end = plain_at(text, start)
        return (("text", row), end)
    if stands(text, start, "{@"):
        return call_at(text, start)
    for how in CHOICES:
        if stands(text, start, "{" + MARKS[how]):
            return choice_at(text, start, how, deep)
    gap, end = word_at(text, start + 1)
    return (("gap", gap), behind(text, end, "}"))


def choice_at(text, start, how, deep):
    if deep > MOST_DEEP:
        raise Unread(f"too deep a choice at {start}")
    gap, end = word_at(text, start + 2)
    arms = []
    while not stands(text, end, "}"):
        name, end = name_at(text, behind(text, end, " "), how)
        pattern, end = pattern_at(text, behind(text, end, "["), deep + 1)
        end = behind(text, end, "]")
        arms.append((name, pattern))
    if arms == [] or len(arms) > MOST_ARMS or not are_unlike(names_of(arms)):
        raise Unread(f"no arms of a choice at {start}")
    return ((how, gap, arms), end + 1)


def name_at(text, start, how):
    if how == "many" and stands(text, start, "="):
        number, end = number_at(text, start + 1, 10 ** 59)
        return (text[start:end], end)
    row, end = row_at(text, start, is_small)
    if not is_word(row) and row != "else":
        raise Unread(f"no arm's name at {start}")
    return (row, end)


def call_at(text, start):
    key, end = word_at(text, start + 2)
    binds = []
    while not stands(text, end, "}"):
        theirs, end = word_at(text, behind(text, end, " "))
        mine, end = word_at(text, behind(text, end, "="))
        binds.append((theirs, mine))
    if len(binds) > MOST_BINDS or not are_unlike([theirs for theirs, mine in binds]):
        raise Unread(f"no binds of a call at {start}")
    return (("say", key, binds), end + 1)


def are_unlike(texts):
    return len(set(texts)) == len(texts)


def shown(pattern):
    return "".join([shown_part(part) for part in pattern])


def shown_part(part):
    if part[0] == "text":
        return part[1]
    word = part[1]
    if part[0] == "gap":
        return "{" + word + "}"
    if part[0] == "say":
        return "{@" + word + "".join([f" {theirs}={mine}" for theirs, mine in part[2]]) + "}"
    arms = [name + "[" + shown(pattern) + "]" for name, pattern in part[2]]
    return "{" + MARKS[part[0]] + word + " " + " ".join(arms) + "}"


def parts_of(pattern):
    parts = []
    for part in pattern:
        parts.append(part)
        if is_choice(part):
            for name, within in part[2]:
                parts.extend(parts_of(within))
    return parts


def size(pattern):
    return len(parts_of(pattern))


def gaps_of(pattern):
    gaps = []
    for part in parts_of(pattern):
        if part[0] == "say":
            gaps.extend([mine for theirs, mine in part[2]])
        elif part[0] != "text":
            gaps.append(part[1])
    return sorted(set(gaps))


def calls_of(pattern):
    return sorted(set([part[1] for part in parts_of(pattern) if part[0] == "say"]))


def part_at(pattern, place):
    if len(place) == 0 or not 0 <= place[0] < len(pattern):
        raise NoPlace(f"{place!r} is the place of no part")
    part = pattern[place[0]]
    if len(place) == 1:
        return copied_part(part)
    if not is_choice(part) or not 0 <= place[1] < len(part[2]):
        raise NoPlace(f"{place!r} is the place of no part")
    name, within = part[2][place[1]]
    return part_at(within, place[2:])


def copied(pattern):
    return [copied_part(part) for part in pattern]


def copied_part(part):
    if is_choice(part):
        return (part[0], part[1], [(name, copied(within)) for name, within in part[2]])
    if part[0] == "say":
        return (part[0], part[1], [(theirs, mine) for theirs, mine in part[2]])
    return (part[0], part[1])
