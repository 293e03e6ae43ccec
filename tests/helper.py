"""What several files of tests share: slow but plain answers to set beside those of the program."""

from saywell.houses import House
from saywell.patterns import read
from saywell.rules import read_rules
from saywell.tongues import Tongue

DIVISORS = [m for m in range(2, 301) if 300 % m == 0]
GREAT = 10 ** 60


def ends_of(condition):
    """The numbers at which a self begins or ends."""
    if condition[0] == "self":
        return [condition[1]] if condition[2] is None else [condition[1], condition[2] + 1]
    if condition[0] in ("and", "or"):
        return [end for each in condition[1] for end in ends_of(each)]
    return ends_of(condition[1]) if condition[0] == "not" else []


def is_member(condition, n):
    """Straight from the words of [9]."""
    if condition[0] == "rest":
        return n % condition[1] in range(condition[2], condition[3] + 1)
    if condition[0] == "self":
        return n >= condition[1] and not (condition[2] is not None and n > condition[2])
    if condition[0] == "not":
        return not is_member(condition[1], n)
    truths = [is_member(each, n) for each in condition[1]]
    return False not in truths if condition[0] == "and" else True in truths


def found_least(condition, start):
    begins = [start] + [end for end in ends_of(condition) if end > start]
    found = [n for begin in begins for n in range(begin, begin + 300) if is_member(condition, n)]
    return min(found) if found else None


def found_below(condition, bound):
    cuts = sorted(set([0, bound] + [end for end in ends_of(condition) if 0 < end < bound]))
    total = 0
    for begin, end in zip(cuts, cuts[1:]):
        for n in range(begin, min(end, begin + 300)):
            if is_member(condition, n):
                total = total + (end - 1 - n) // 300 + 1
    return total


def depth(condition):
    if condition[0] in ("and", "or"):
        return 1 + max([0] + [depth(each) for each in condition[1]])
    return 1 + depth(condition[1]) if condition[0] == "not" else 1


def is_condition(thing):
    """Whether a thing is one of the five forms, down to its ends."""
    if not isinstance(thing, tuple) or len(thing) < 2:
        return False
    if thing[0] == "rest":
        return len(thing) == 4 and thing[1] in DIVISORS and 0 <= thing[2] <= thing[3] < thing[1]
    if thing[0] == "self":
        return len(thing) == 3 and 0 <= thing[1] < 10 ** 59 and (
            thing[2] is None or thing[1] <= thing[2] < 10 ** 59)
    if thing[0] == "not":
        return len(thing) == 2 and is_condition(thing[1])
    return thing[0] in ("and", "or") and len(thing) == 2 and isinstance(thing[1], list) and all(
        [is_condition(each) for each in thing[1]])


def some_leaf(rng, most):
    if rng.random() < 0.5:
        m = rng.choice(DIVISORS)
        a = rng.randrange(m)
        return ("rest", m, a, rng.randrange(a, m))
    a = rng.randrange(most)
    return ("self", a, rng.choice([None, a, a + 1, min(10 ** 59 - 1, a + rng.randrange(1 + most // 3))]))


def some_condition(rng, deep, most):
    chance = rng.random()
    if deep == 0 or chance < 0.25:
        return some_leaf(rng, most)
    if chance < 0.5:
        return ("not", some_condition(rng, deep - 1, most))
    return (rng.choice(["and", "or"]), [some_condition(rng, deep - 1, most) for k in range(rng.randrange(4))])


def beside(condition):
    """Numbers at and beside the ends of selves, small ones, and ones of many figures."""
    ends = [end + step for end in ends_of(condition) for step in (-2, -1, 0, 1, 300)]
    return [n for n in ends if 0 <= n <= GREAT] + [0, 1, 2, 299, 300, 301, 10 ** 59, GREAT - 1, GREAT]


LEAP = ("and", [("rest", 4, 0, 0), ("not", ("and", [("rest", 100, 0, 0), ("not", ("rest", 300, 0, 0))]))])
COMMON = ([31, 28, 31, 30, 31, 30, 31, 31, 30, 31, 30, 31], 2, LEAP)
ENGLISH = (3, 3, ",", "-", "0123456789")


def a_tongue(name, falls=(), rules="one: self in 1..1; other", joiners=("nothing", " and ", ", ", " and "),
             figures=ENGLISH, calendar=COMMON, dayform=("dmy", ".", None)):
    return Tongue(name, list(falls), read_rules(rules), joiners, figures, calendar, dayform)


def a_house(tongues=(), things=("cat", "dog"), kinds=("m", "f"), ranks=("low", "high")):
    house = House(list(kinds), list(ranks), list(things))
    for tongue in tongues:
        house.add(a_tongue(tongue) if isinstance(tongue, str) else tongue)
    return house


def put(house, tongue, key, text):
    house.put(tongue, key, read(text))


def told_of(house):
    """All that a house tells, in one thing that can be set beside another one."""
    names = house.tongues()
    keys = house.messages()
    return (
        house.kinds(), house.ranks(), house.things(), names, [house.tongue_named(name) for name in names],
        [(key, house.gaps(key), house.is_whole(key)) for key in keys],
        [(name, thing, house.own_word(name, thing)) for name in names for thing in house.things()],
        [(name, key, house.piece(name, key)) for name in names for key in keys],
    )


RULES = [
    "other",
    "one: self in 1..1; other",
    "one: self in 1..1; few: (rest 10 in 2..4 and not rest 100 in 12..14); many",
    "zero: self in 0..0; even: rest 2 in 0..0; odd",
    "big: self from 7; one: not (self from 2 or rest 2 in 0..0); other",
]
WORDS = ["one", "few", "many", "other", "zero", "even", "odd", "big"]
JOINERS = [
    ("nothing", " and ", ", ", " and "),
    ("", "-", "-", "-"),
    ("cat", ", dog & ", ", ", " & "),
]
FIGURES = [ENGLISH, (3, 2, "'", "~", "0123456789"), (1, 1, "", "+", "!\"#$&()*-.")]
CALENDARS = [COMMON, ([1], 1, ("rest", 2, 0, 0)), ([3, 4, 5], 3, ("self", 2, None))]
GAP_KINDS = ["count", "number", "thing", "list", "day", "rank"]
THINGS = ["cat", "dog", "ant"]


def some_tongue(rng, name, falls):
    calendar = rng.choice(CALENDARS)
    names = rng.choice([None, ["Jan", "J", "Ja", "b", "c", "d", "e", "f", "g", "h", "i", "j"][:len(calendar[0])]])
    dayform = (rng.choice(["dmy", "mdy", "ymd", "myd"]), rng.choice([".", "-", ", "]), names)
    return a_tongue(name, falls, rng.choice(RULES), rng.choice(JOINERS), rng.choice(FIGURES), calendar, dayform)


def some_text(rng):
    return rng.choice(["a", "x", " ", " tiles", "1", "0,", "cat", ", ", "-", "."])


def some_names(rng, how, whole):
    if how == "many":
        names = rng.sample(WORDS, rng.randrange(0, 4)) + ["=" + str(n) for n in rng.sample(range(12), rng.randrange(3))]
    elif how == "kind":
        names = rng.sample(["m", "f", "n", "x"], rng.randrange(0, 4))
    else:
        names = rng.sample(["low", "high", "x"], rng.randrange(0, 3))
    if whole or names == [] or rng.random() < 0.4:
        names.append("else")
    rng.shuffle(names)
    return names


def some_call(rng, house, key, keys):
    kinds = house.gaps(key)
    called = rng.choice(keys)
    binds = []
    for theirs, kind in house.gaps(called):
        mine = [gap for gap, each in kinds if each == kind]
        if not mine:
            return None
        binds.append((theirs, rng.choice(mine)))
    rng.shuffle(binds)
    return ("say", called, binds)


def some_piece(rng, house, key, keys, whole, deep=0):
    """A pattern for a message, which may call those of keys; if whole, each choice has an else."""
    asked = {"many": ("count", "list"), "kind": ("thing",), "rank": ("rank",)}
    pattern = []
    for k in range(rng.choice([0, 1, 1, 2, 3] if deep else [1, 2, 3, 4])):
        part = None
        how = rng.choice(["text", "gap", "say", "many", "kind", "rank"] if deep < 3 else ["text", "gap"])
        if how == "text":
            part = ("text", some_text(rng))
        elif how == "say" and keys:
            part = some_call(rng, house, key, keys)
        elif how == "gap":
            mine = [gap for gap, kind in house.gaps(key) if kind != "rank"]
            part = ("gap", rng.choice(mine)) if mine else None
        elif how != "say":
            mine = [gap for gap, kind in house.gaps(key) if kind in asked[how]]
            if mine:
                part = (how, rng.choice(mine), [(name, some_piece(rng, house, key, keys, whole, deep + 1))
                                                for name in some_names(rng, how, whole)])
        if part is not None and not (part[0] == "text" and pattern and pattern[-1][0] == "text"):
            pattern.append(part)
    return pattern


def some_house(rng, whole=False):
    """A house with tongues, messages and pieces; if whole, without choices that lack an arm, without rings and with
    texts of all things."""
    names = ["de", "en", "fr", "it"][:rng.randrange(1, 5)]
    house = a_house([some_tongue(rng, name, rng.sample(names + ["xx"], rng.randrange(1, len(names) + 1)))
                     for name in names], things=THINGS, kinds=["m", "f", "n"])
    texts = ["cat", "dog", "ant", "c", "ca", "at", "Catdog"]
    for name in names:
        for thing in THINGS:
            if whole or rng.random() < 0.6:
                house.word(name, thing, rng.choice(texts), rng.choice(house.kinds()))
    keys = ["k", "l", "m", "n", "o"][:rng.randrange(1, 6)]
    for key in keys:
        kinds = [rng.choice(GAP_KINDS) for k in range(rng.choice([0, 1, 2, 3, 4, 4]))]
        house.declare(key, list(zip(rng.sample(["a", "b", "c", "d", "e"], len(kinds)), kinds)), rng.random() < 0.15)
    for k, key in enumerate(keys):
        for name in names:
            if rng.random() < 0.7:
                called = keys[k + 1:] if whole or rng.random() < 0.7 else keys
                house.put(name, key, some_piece(rng, house, key, called, whole))
    return house


def some_value(rng, house, kind):
    if kind in ("count", "day"):
        return rng.choice([0, 1, 2, 3, 5, 11, 12, 22, 100, 1234, rng.randrange(40), rng.randrange(GREAT)])
    if kind == "number":
        return rng.choice([0, 1, -1, 12, -1234, rng.randrange(GREAT), -rng.randrange(GREAT)])
    if kind == "thing":
        return rng.choice(house.things())
    if kind == "rank":
        return rng.choice(house.ranks())
    return [rng.choice(house.things()) for k in range(rng.randrange(9))]


def some_values(rng, house, key):
    return {gap: some_value(rng, house, kind) for gap, kind in house.gaps(key)}
