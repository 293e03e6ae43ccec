"""The flaws of a message, as point [23] of the document tells them.

A pair is a tuple (owner, key), a piece that is reached. The calls of a piece are told as a list of pairs, one for each
call that stands there; the owner in such a pair is None where the message called has none.
"""

from saywell.paths import arms
from saywell.patterns import parts_of, size
from saywell.roads import needs_words, owner, word_of

MOST_PARTS = 200
MOST_DEEP = 8


def flaws(house, tongue, key):
    house.ask_tongue(tongue)
    house.ask_message(key)
    first = (owner(house, tongue, key), key)
    if first[0] is None:
        return [("unfound", tongue, key)]
    calls = calls_from(house, first)
    weights = weighed(house, calls)
    found = unfound(calls) + unnamed(house, calls) + lacking(house, calls)
    if first not in weights:
        return found + [("round", ring(first, calls, weights))]
    parts, deep = weights[first]
    if parts > MOST_PARTS or deep > MOST_DEEP:
        found.append(("great", parts, deep))
    return found


# A dict of all pairs that are reached, each with its calls.
def calls_from(house, first):
    calls = {}
    left = [first]
    while left != []:
        pair = left.pop()
        if pair not in calls:
            calls[pair] = calls_in(house, pair)
            left.extend([called for called in calls[pair] if called[0] is not None])
    return calls


def calls_in(house, pair):
    name, key = pair
    keys = [part[1] for part in parts_of(house.piece(name, key)) if part[0] == "say"]
    return [(owner(house, name, called), called) for called in keys]


def unfound(calls):
    found = []
    for pair in calls:
        for name, key in calls[pair]:
            flaw = ("unfound", pair[0], key)
            if name is None and flaw not in found:
                found.append(flaw)
    return found


def unnamed(house, calls):
    found = []
    for name, key in calls:
        if needs_words(house, key):
            for thing in house.things():
                flaw = ("unnamed", name, thing)
                if word_of(house, name, thing) is None and flaw not in found:
                    found.append(flaw)
    return found


def lacking(house, calls):
    found = []
    for name, key in calls:
        for place, arm, told in arms(house, name, key):
            if arm is None:
                found.append(("lacking", name, key, place, told[1]))
    return found


# A dict of all pairs from which one doesn't come to a ring, each with its parts and how deep it is.
def weighed(house, calls):
    weights = {}
    left = list(calls)
    while left != []:
        ready = [pair for pair in left if all([is_weighed(called, weights) for called in calls[pair]])]
        if ready == []:
            break
        for pair in ready:
            weights[pair] = weight_of(house, pair, [weights[called] for called in calls[pair] if called[0] is not None])
        left = [pair for pair in left if pair not in weights]
    return weights


def is_weighed(called, weights):
    return called[0] is None or called in weights


def weight_of(house, pair, called):
    name, key = pair
    parts = size(house.piece(name, key)) + sum([weight[0] for weight in called])
    return (parts, 1 + max([weight[1] for weight in called], default=0))


# A pair that isn't weighed calls another such one, so going from one to the next comes to a ring.
def ring(first, calls, weights):
    pairs = [first]
    while True:
        further = [called for called in calls[pairs[-1]] if not is_weighed(called, weights)][0]
        if further in pairs:
            return pairs[pairs.index(further):]
        pairs.append(further)
