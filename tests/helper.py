"""What several files of tests share: slow but plain answers to set beside those of the program."""

from saywell.houses import House
from saywell.patterns import read
from saywell.rules import read_rules
from saywell.tongues import Tongue

DIVISORS = [m for m in range(2, 301) if 300 % m == 0]
GREAT = 10 ** 60


def ends_of(condition):
    """The numbers at which a self begins or ends."""
    if condition[0] == "self":
        return [condition[1]] if condition[2] is None else [condition[1], condition[2] + 1]
    if condition[0] in ("and", "or"):
        return [end for each in condition[1] for end in ends_of(each)]
    return ends_of(condition[1]) if condition[0] == "not" else []


def is_member(condition, n):
    """Straight from the words of [9]."""
    if condition[0] == "rest":
        return n % condition[1] in range(condition[2], condition[3] + 1)
    if condition[0] == "self":
        return n >= condition[1] and not (condition[2] is not None and n > condition[2])
    if condition[0] == "not":
        return not is_member(condition[1], n)
    truths = [is_member(each, n) for each in condition[1]]
    return False not in truths if condition[0] == "and" else True in truths


def found_least(condition, start):
    begins = [start] + [end for end in ends_of(condition) if end > start]
    found = [n for begin in begins for n in range(begin, begin + 300) if is_member(condition, n)]
    return min(found) if found else None


def found_below(condition, bound):
    cuts = sorted(set([0, bound] + [end for end in ends_of(condition) if 0 < end < bound]))
    total = 0
    for begin, end in zip(cuts, cuts[1:]):
        for n in range(begin, min(end, begin + 300)):
            if is_member(condition, n):
                total = total + (end - 1 - n) // 300 + 1
    return total


def depth(condition):
    if condition[0] in ("and", "or"):
        return 1 + max([0] + [depth(each) for each in condition[1]])
    return 1 + depth(condition[1]) if condition[0] == "not" else 1


def is_condition(thing):
    """Whether a thing is one of the five forms, down to its ends."""
    if not isinstance(thing, tuple) or len(thing) < 2:
        return False
    if thing[0] == "rest":
        return len(thing) == 4 and thing[1] in DIVISORS and 0 <= thing[2] <= thing[3] < thing[1]
    if thing[0] == "self":
        return len(thing) == 3 and 0 <= thing[1] < 10 ** 59 and (
            thing[2] is None or thing[1] <= thing[2] < 10 ** 59)
    if thing[0] == "not":
        return len(thing) == 2 and is_condition(thing[1])
    return thing[0] in ("and", "or") and len(thing) == 2 and isinstance(thing[1], list) and all(
        [is_condition(each) for each in thing[1]])


def some_leaf(rng, most):
    if rng.random() < 0.5:
        m = rng.choice(DIVISORS)
        a = rng.randrange(m)
        return ("rest", m, a, rng.randrange(a, m))
    a = rng.randrange(most)
    return ("self", a, rng.choice([None, a, a + 1, min(10 ** 59 - 1, a + rng.randrange(1 + most // 3))]))


def some_condition(rng, deep, most):
    chance = rng.random()
    if deep == 0 or chance < 0.25:
        return some_leaf(rng, most)
    if chance < 0.5:
        return ("not", some_condition(rng, deep - 1, most))
    return (rng.choice(["and", "or"]), [some_condition(rng, deep - 1, most) for k in range(rng.randrange(4))])


def beside(condition):
    """Numbers at and beside the ends of selves, small ones, and ones of many figures."""
    ends = [end + step for end in ends_of(condition) for step in (-2, -1, 0, 1, 300)]
    return [n for n in ends if 0 <= n <= GREAT] + [0, 1, 2, 299, 300, 301, 10 ** 59, GREAT - 1, GREAT]


LEAP = ("and", [("rest", 4, 0, 0), ("not", ("and", [("rest", 100, 0, 0), ("not", ("rest", 300, 0, 0))]))])
COMMON = ([31, 28, 31, 30, 31, 30, 31, 31, 30, 31, 30, 31], 2, LEAP)
ENGLISH = (3, 3, ",", "-", "0123456789")


def a_tongue(name, falls=(), rules="one: self in 1..1; other", joiners=("nothing", " and ", ", ", " and "),
             figures=ENGLISH, calendar=COMMON, dayform=("dmy", ".", None)):
    return Tongue(name, list(falls), read_rules(rules), joiners, figures, calendar, dayform)


def a_house(tongues=(), things=("cat", "dog"), kinds=("m", "f"), ranks=("low", "high")):
    house = House(list(kinds), list(ranks), list(things))
    for tongue in tongues:
        house.add(a_tongue(tongue) if isinstance(tongue, str) else tongue)
    return house


def put(house, tongue, key, text):
    house.put(tongue, key, read(text))


def told_of(house):
    """All that a house tells, in one thing that can be set beside another one."""
    names = house.tongues()
    keys = house.messages()
    return (
        house.kinds(), house.ranks(), house.things(), names, [house.tongue_named(name) for name in names],
        [(key, house.gaps(key), house.is_whole(key)) for key in keys],
        [(name, thing, house.own_word(name, thing)) for name in names for thing in house.things()],
        [(name, key, house.piece(name, key)) for name in names for key in keys],
    )
