"""Rules of how many, and their text, as point [11] of the document tells them."""

from saywell.errors import NoRules
from saywell.scan import Unread, behind, number_at, stands, word_at
from saywell.sets import copied, holds

MOST_RULES = 8
MOST_LEAVES = 12
MOST_LEAVES_IN_ALL = 24
MOST_DEEP = 4


def read_rules(text):
    if not isinstance(text, str):
        raise NoRules("no text")
    try:
        rules = rules_from(text)
    except Unread:
        raise NoRules(f"{text!r} is no rules' text") from None
    if not are_within_bounds(rules):
        raise NoRules(f"{text!r} is no rules' text")
    return rules


def rules_from(text):
    rules = []
    word, end = word_at(text, 0)
    while end < len(text):
        condition, end = condition_at(text, behind(text, end, ": "), 1)
        rules.append((word, condition))
        word, end = word_at(text, behind(text, end, "; "))
    rules.append((word, None))
    return rules


def are_within_bounds(rules):
    words = [word for word, condition in rules]
    if len(rules) > MOST_RULES or len(set(words)) < len(words):
        return False
    leaves = [leaves_of(condition) for word, condition in rules if condition is not None]
    return max(leaves, default=0) <= MOST_LEAVES and sum(leaves) <= MOST_LEAVES_IN_ALL


def leaves_of(condition):
    if condition[0] in ("and", "or"):
        return sum([leaves_of(each) for each in condition[1]])
    if condition[0] == "not":
        return leaves_of(condition[1])
    return 1


# deep is how deep a not or a bracket at this very place stands.
def condition_at(text, start, deep):
    if stands(text, start, "rest "):
        return rest_at(text, start)
    if stands(text, start, "self from "):
        begin, end = number_at(text, behind(text, start, "self from "), 10 ** 59)
        return (("self", begin, None), end)
    if stands(text, start, "self "):
        first, last, end = row_of_numbers_at(text, behind(text, start, "self in "), 10 ** 59)
        return (("self", first, last), end)
    if deep > MOST_DEEP:
        raise Unread(f"too deep a condition at {start}")
    if stands(text, start, "not "):
        within, end = condition_at(text, behind(text, start, "not "), deep + 1)
        return (("not", within), end)
    return bracket_at(text, start, deep)


def rest_at(text, start):
    m, end = number_at(text, behind(text, start, "rest "), 301)
    if m < 2 or 300 % m != 0:
        raise Unread(f"{m} doesn't divide 300")
    first, last, end = row_of_numbers_at(text, behind(text, end, " in "), m)
    return (("rest", m, first, last), end)


def row_of_numbers_at(text, start, bound):
    first, end = number_at(text, start, bound)
    last, end = number_at(text, behind(text, end, ".."), bound)
    if first > last:
        raise Unread(f"{first} is more than {last}")
    return (first, last, end)


def bracket_at(text, start, deep):
    within, end = condition_at(text, behind(text, start, "("), deep + 1)
    sort = "and" if stands(text, end, " and ") else "or"
    mark = f" {sort} "
    conditions = [within]
    within, end = condition_at(text, behind(text, end, mark), deep + 1)
    conditions.append(within)
    while stands(text, end, mark):
        within, end = condition_at(text, behind(text, end, mark), deep + 1)
        conditions.append(within)
    return ((sort, conditions), behind(text, end, ")"))


def shown_rules(rules):
    return "; ".join([shown_rule(word, condition) for word, condition in rules])


def shown_rule(word, condition):
    if condition is None:
        return word
    return word + ": " + shown_condition(condition)


def shown_condition(condition):
    sort = condition[0]
    if sort == "rest":
        return "rest " + str(condition[1]) + " in " + str(condition[2]) + ".." + str(condition[3])
    if sort == "self" and condition[2] is None:
        return "self from " + str(condition[1])
    if sort == "self":
        return "self in " + str(condition[1]) + ".." + str(condition[2])
    if sort == "not":
        return "not " + shown_condition(condition[1])
    texts = [shown_condition(each) for each in condition[1]]
    if sort == "and":
        return "(" + " and ".join(texts) + ")"
    return "(" + " or ".join(texts) + ")"


def way_of(rules, n):
    for word, condition in rules:
        if condition is None or holds(condition, n):
            return word
    return None


def set_of(rules, word):
    conditions = []
    for each, condition in rules:
        if each == word and condition is None:
            return ("and", conditions)
        if each == word:
            return ("and", conditions + [copied(condition)])
        if condition is not None:
            conditions.append(("not", copied(condition)))
    return ("or", [])
